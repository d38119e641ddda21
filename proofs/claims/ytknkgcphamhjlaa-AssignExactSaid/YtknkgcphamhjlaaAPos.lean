/-
  Stage 16: the law's search through all assignments.
-/
import Derived.Test.YtknkgcphamhjlaaASan
set_option linter.unusedSimpArgs false
set_option linter.unusedVariables false
namespace Go.Proofs.Ytknkgcphamhjlaa
open Go.RowKit Go.Lib

theorem setB_back {tk : List Bool} {q : Nat} (h : tk.getD q false = false) (hq : q < tk.length) : (tk.set q true).set q false = tk := by
  rw [List.set_set]
  refine List.ext_getElem? fun i => ?_
  rw [List.getElem?_set]
  by_cases e : q = i
  · subst e
    rw [if_pos rfl, if_pos hq, List.getElem?_eq_getElem hq]
    rw [List.getD_eq_getElem?_getD, List.getElem?_eq_getElem hq] at h
    exact congrArg some h.symm
  · rw [if_neg e]
/-- Track t, tried for load x. -/
def posT (b : List Int) (x : Int) (r : List Int) (tk : List Bool) (t : Nat) : Bool := (!tk.getD t false && decide (x ≤ ld b t)) && posR b r (tk.set t true)
def posK2 (b : List Int) (x : Int) (r : List Int) (tk : List Bool) (k : Nat) : Bool := (List.range k).any (posT b x r tk)
theorem posK2_succ (b : List Int) (x : Int) (r : List Int) (tk : List Bool) (k : Nat) : posK2 b x r tk (k + 1) = (posK2 b x r tk k || posT b x r tk k) := by unfold posK2; rw [List.range_succ, List.any_append]; simp
theorem posK2_at {b : List Int} {x : Int} {r : List Int} {tk : List Bool} {k n : Nat} (h : posT b x r tk k = true) (hk : k < n) : posK2 b x r tk n = true := by
  unfold posK2; rw [List.any_eq_true]; exact ⟨k, List.mem_range.2 hk, h⟩
theorem posR_zero {b r : List Int} {tk : List Bool} : posR b (0 :: r) tk = posR b r tk := by
  conv => lhs; unfold posR
  rw [if_pos rfl]
theorem posR_pos {b r : List Int} {x : Int} {tk : List Bool} (h : x ≠ 0) : posR b (x :: r) tk = posK2 b x r tk b.length := by
  conv => lhs; unfold posR
  rw [if_neg h]; rfl
set_option maxRecDepth 100000 in
set_option maxHeartbeats 6400000 in
theorem possible_any (a b : List Int) (A Bb : Option Addr) (ca cb L M t : Nat) (hL : L = a.length) (hM : M = b.length) (hLm : L ≤ 1000) (hMm : M ≤ 1000) : ∀ (n i : Nat), L - i = n → i ≤ L → ∀ (tk : List Bool) (w : World), tk.length = M → BSet w t tk → Row .i64 w t A a → Row .i64 w t Bb b →
    Calls Try.prog 20 #[.slice A L ca, .slice Bb M cb, .int .i64 (i : Int), .slice (some ⟨t, 0, none⟩) M M] w fun e w' => e = .returned (.bool (posR b (a.drop i) tk)) ∧ BSet w' t tk ∧ Below t w w' := by
  intro n
  induction n with
  | zero =>
    intro i hn hi tk w htk hbs ha hb
    obtain rfl : i = L := by omega
    have hz : ((i : Int) == (i : Int)) = true := by simp
    have HF := Lib.hid (show posR b (a.drop i) tk = true by rw [hL, List.drop_length]; rfl)
    have HBS := Lib.hid hbs
    clear hbs ha hb hn
    go_enter Try.func20, Try.ntmps20
    go_wp2_with fail
    go_ret
    exact ⟨ret_bool HF.out.symm, HBS.out, Below.refl _ _⟩
  | succ n ih =>
    intro i hn hi tk w htk hbs ha hb
    have HIH := Lib.hid ih
    have HL := Lib.hid hL
    have HM := Lib.hid hM
    have HTK := Lib.hid htk
    have HBS0 := Lib.hid hbs
    have HA := Lib.hid ha
    have HB := Lib.hid hb
    have hiL : i < L := by omega
    have hiLz : (i : Int) < (L : Int) := by omega
    have hne : ((i : Int) == (L : Int)) = false := by simp; omega
    have hN := Lib.hid (show L - (i + 1) = n by omega)
    obtain ⟨aa, rfl, -, c1⟩ := ha i (by omega)
    obtain ⟨x, hx⟩ : ∃ z, z = ld a i := ⟨_, rfl⟩
    change w.cell? _ = some (Value.int .i64 (ld a i)) at c1
    have hdr := drop_ld (show i < a.length by omega)
    rw [← hx] at c1 hdr
    have HX := Lib.hid hx
    have HDR := Lib.hid hdr
    obtain ⟨r, hr⟩ : ∃ r, r = a.drop (i + 1) := ⟨_, rfl⟩
    rw [← hr] at HDR
    have HR := Lib.hid hr
    have eI : ((i + 1 : Nat) : Int) = (i : Int) + 1 := by omega
    clear ih hL hM htk hbs ha hb hx hdr hr hn
    by_cases h0 : x = 0
    · have hx0 : (x == 0) = true := by simp [h0]
      have HF := Lib.hid (show posR b (a.drop i) tk = posR b r tk by rw [HDR.out, h0]; exact posR_zero)
      have HC := Lib.hid (HIH.out (i + 1) hN.out (by omega) tk w HTK.out HBS0.out HA.out HB.out)
      rw [eI, ← HR.out, ← HF.out] at HC
      clear h0 eI
      go_enter Try.func20, Try.ntmps20
      go_wp2_with fail
      refine HC.out.mono ?_
      rintro e w2 ⟨rfl, h1, h2⟩
      have H1 := Lib.hid h1
      have H2 := Lib.hid h2
      clear h1 h2 HC
      go_wp2_with fail
      go_ret
      exact ⟨rfl, H1.out, H2.out⟩
    · have hx0 : (x == 0) = false := by simpa using h0
      have HF := Lib.hid (show posR b (a.drop i) tk = posK2 b x r tk M by rw [HDR.out, HM.out]; exact posR_pos h0)
      have HPT := Lib.hid (show ∀ k, posK2 b x r tk (k + 1) = (posK2 b x r tk k || posT b x r tk k) from fun k => posK2_succ b x r tk k)
      clear h0
      go_enter Try.func20, Try.ntmps20
      go_wp2_with fail
      clear c1
      go_loopw [28] (fun iv wr => ∃ q : Nat, q ≤ M ∧ iv = .int .i64 (q : Int) ∧ Hid (posK2 b x r tk q = false) ∧ Hid (BSet wr t tk) ∧ Hid (Below t w wr)) (fun iv _ => M - (intOf iv).toNat)
      case atStart => exact ⟨0, by omega, rfl, Lib.hid rfl, HBS0, Lib.hid (Below.refl _ _)⟩
      case round =>
        clear HBS0
        obtain ⟨q, hq, rfl, G, BS, BL⟩ := hrel
        by_cases hlt : q < M
        · have hltz : (q : Int) < (M : Int) := by omega
          have ct := BS.out.cell q (by rw [HTK.out]; exact hlt)
          obtain ⟨ba, rfl, -, c2⟩ := (HB.out.under BL.out) q (by rw [← HM.out]; exact hlt)
          obtain ⟨ad2, e2, -, c3⟩ := (HA.out.under BL.out) i (by rw [← HL.out]; exact hiL)
          injection e2 with e2
          subst e2
          obtain ⟨z, hz⟩ : ∃ z, z = ld b q := ⟨_, rfl⟩
          change wr.cell? _ = some (Value.int .i64 (ld b q)) at c2
          change wr.cell? _ = some (Value.int .i64 (ld a i)) at c3
          rw [← hz] at c2
          rw [← HX.out] at c3
          have HZ := Lib.hid hz
          clear hz
          cases htq : tk.getD q false with
          | true =>
            rw [htq] at ct
            have HN := Lib.hid (show posK2 b x r tk (q + 1) = false by rw [HPT.out, G.out, Bool.false_or]; unfold posT; rw [htq]; rfl)
            clear htq
            go_upto_region 8 with fail
            go_quiet (fail)
            go_wp2_with fail
            go_roundw
            case rel => exact ⟨q + 1, by omega, by go_num, HN, Lib.hid (BS.out.drewN _), Lib.hid (bdn BL.out)⟩
            case measure => simp [intOf]; omega
          | false =>
            rw [htq] at ct
            have HTQ := Lib.hid htq
            clear htq
            by_cases t1 : x ≤ z
            · have hd1 : decide (z ≥ x) = true := decide_eq_true t1
              have hd1' : decide (x ≤ z) = true := decide_eq_true t1
              have HPQ := Lib.hid (show posT b x r tk q = posR b r (tk.set q true) by unfold posT; rw [HTQ.out, ← HZ.out, decide_eq_true t1]; rfl)
              go_upto_region 8 with fail
              go_quiet (fail)
              clear c2 c3
              have ct2 : (wr.drewN nq).cell? ⟨t, q, none⟩ = some (.bool false) := ct
              have ft2 : (wr.drewN nq).frozen? ⟨t, q, none⟩ = false := BS.out.frozen q
              have BS5 := Lib.hid ((BS.out.drewN nq).set q true)
              have BL5 := Lib.hid ((bdn (n := nq) BL.out).setCell (p := ⟨t, q, none⟩) (Nat.le_refl t) (.bool true))
              clear ct
              go_upto_region 10 with fail
              clear ct2 ft2
              generalize (wr.drewN nq).setCell ⟨t, q, none⟩ (.bool true) = w5 at *
              have HC := Lib.hid (HIH.out (i + 1) hN.out (by omega) (tk.set q true) w5 (by rw [List.length_set]; exact HTK.out) BS5.out (HA.out.under BL5.out) (HB.out.under BL5.out))
              rw [eI, ← HR.out, ← HPQ.out] at HC
              obtain ⟨pv, hpv⟩ : ∃ p, p = posT b x r tk q := ⟨_, rfl⟩
              rw [← hpv] at HC
              have HPV := Lib.hid hpv
              clear hpv HPQ
              go_wp2_with fail
              refine HC.out.mono ?_
              rintro e w6 ⟨rfl, h1, h2⟩
              have ct6 := h1.cell q (by rw [List.length_set, HTK.out]; exact hlt)
              have ft6 := h1.frozen q
              have H1 := Lib.hid (show BSet (w6.setCell ⟨t, q, none⟩ (.bool false)) t tk by
                have h3 := h1.set q false
                rwa [setB_back HTQ.out (by rw [HTK.out]; exact hlt)] at h3)
              have H2 := Lib.hid ((BL5.out.trans h2).setCell (p := ⟨t, q, none⟩) (Nat.le_refl t) (.bool false))
              generalize (tk.set q true).getD q false = bq at ct6
              clear h1 h2 HC BS5 BL5
              cases pv with
              | true =>
                have HT := Lib.hid (show posK2 b x r tk M = true from posK2_at HPV.out.symm hlt)
                go_wp2_with fail
                go_ret
                exact ⟨ret_bool (by rw [HF.out, HT.out]), H1.out, H2.out⟩
              | false =>
                have HN := Lib.hid (show posK2 b x r tk (q + 1) = false by rw [HPT.out, G.out, ← HPV.out]; rfl)
                go_wp2_with fail
                go_roundw
                case rel => exact ⟨q + 1, by omega, by go_num, HN, H1, H2⟩
                case measure => simp [intOf]; omega
            · have hd1 : decide (z ≥ x) = false := decide_eq_false t1
              have hd1' : decide (x ≤ z) = false := decide_eq_false t1
              have HN := Lib.hid (show posK2 b x r tk (q + 1) = false by rw [HPT.out, G.out, Bool.false_or]; unfold posT; rw [← HZ.out, decide_eq_false t1]; simp)
              go_upto_region 8 with fail
              go_quiet (fail)
              go_wp2_with fail
              go_roundw
              case rel => exact ⟨q + 1, by omega, by go_num, HN, Lib.hid (BS.out.drewN _), Lib.hid (bdn BL.out)⟩
              case measure => simp [intOf]; omega
        · obtain rfl : q = M := by omega
          have hltz : ¬ (q : Int) < (q : Int) := by omega
          go_wp2_with fail
          go_ret
          exact ⟨ret_bool (by rw [HF.out, G.out]), BS.out, BL.out⟩
end Go.Proofs.Ytknkgcphamhjlaa
