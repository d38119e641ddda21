/-
  Stage 4: Encode.
-/
import Derived.Test.YtbpgbdnfoofnaaaDoorDApp
import Derived.Test.YtbpgbdnfoofnaaaDoorDLoss
set_option linter.unusedSimpArgs false
set_option linter.unusedVariables false
namespace Go.Proofs.YtbpgbdnfoofnaaaDoor
open Go.RowKit

/-- What Encode answers. -/
def encL (l : List Pul) : List Int × Int := if validR l = 0 then packR (valuesR l) else ([], validR l)
def EncPost (base : Nat) (l : List Pul) (w : World) (e : Ending) (w' : World) : Prop :=
  ∃ v, e = .returned (.tuple #[v, .int .i64 (encL l).2]) ∧ Own .u8 5 w' base v (encL l).1 ∧ Below w.heap.size w w'
theorem EncPost.mk' {base : Nat} {l : List Pul} {w w' : World} {e : Ending} {v : Value} {b : List Int} {er : Int} (h : encL l = (b, er)) (h1 : e = .returned (.tuple #[v, .int .i64 er])) (h2 : Own .u8 5 w' base v b) (h3 : Below w.heap.size w w') : EncPost base l w e w' := by
  refine ⟨v, ?_, ?_, h3⟩
  · rw [h]; exact h1
  · rw [h]; exact h2
def slen : Value → Nat
  | .slice _ n _ => n
  | _ => 0
theorem add_add (a : Addr) (i j : Nat) : (a.add i).add j = a.add (i + j) := by
  unfold Addr.add
  by_cases hi : i = 0 <;> by_cases hj : j = 0 <;> simp [hi, hj, Nat.add_assoc]
theorem flatP_drop (l : List Pul) (n : Nat) : (flatP l).drop (n * 3) = flatP (l.drop n) := by
  induction l generalizing n with
  | nil => simp [flatP]
  | cons p l ih =>
    cases n with
    | zero => rfl
    | succ n => rw [List.drop_succ_cons, ← ih n, show (n + 1) * 3 = n * 3 + 1 + 1 + 1 by omega]; rfl
theorem Row.dropR {k : IntKind} {w : World} {B : Nat} {A : Option Addr} {zs : List Int} (h : Row k w B A zs) (n : Nat) : Row k w B (A.map (·.add n)) (zs.drop n) := fun j hj => by
  rw [List.length_drop] at hj
  obtain ⟨ad, rfl, hb, hc⟩ := h (n + j) (by omega)
  refine ⟨ad.add n, rfl, by rw [add_block]; exact hb, ?_⟩
  rw [add_add, List.getD_eq_getElem?_getD, List.getElem?_drop, ← List.getD_eq_getElem?_getD]
  exact hc
theorem flatP_take (l : List Pul) (n : Nat) : (flatP l).take (n * 3) = flatP (l.take n) := by
  induction l generalizing n with
  | nil => simp [flatP]
  | cons p l ih =>
    cases n with
    | zero => simp [flatP]
    | succ n =>
      rw [List.take_succ_cons, show (n + 1) * 3 = n * 3 + 1 + 1 + 1 by omega]
      show p.1 :: p.2.1 :: p.2.2 :: (flatP l).take (n * 3) = p.1 :: p.2.1 :: p.2.2 :: flatP (l.take n)
      rw [ih]
theorem PRowU.cut {w : World} {B : Nat} {A : Option Addr} {l : List Pul} (h : PRowU w B A l) (n c : Nat) (hc : l.length ≤ c) : PRowU w B (if c = n then A else A.map (·.add (n * 3))) (l.drop n) := by
  by_cases g : c = n
  · rw [if_pos g, List.drop_eq_nil_of_le (by omega)]
    exact ⟨Row.nil, by decide⟩
  · rw [if_neg g]
    exact ⟨by rw [← flatP_drop]; exact h.row.dropR _, by rw [List.length_drop]; have := h.len; omega⟩
theorem PRowU.head {w : World} {B : Nat} {A : Option Addr} {l : List Pul} (h : PRowU w B A l) (n : Nat) : PRowU w B A (l.take n) :=
  ⟨by rw [← flatP_take]; exact h.row.take _, by rw [List.length_take]; have := h.len; omega⟩

theorem tim_take {l : List Pul} {n : Nat} (h : 1 ≤ n) : tim (l.take n) = tim l := by
  cases l with
  | nil => simp
  | cons p l =>
    cases n with
    | zero => omega
    | succ n => rfl
theorem enc_bad {l : List Pul} (h : ¬ validR l = 0) : encL l = ([], validR l) := by unfold encL; rw [if_neg h]
set_option maxHeartbeats 1600000 in
theorem enc_any (l : List Pul) (A : Option Addr) (c : Nat) (w : World) (h : PRow w A l) (hc : l.length ≤ c) (hcm : c ≤ maxLen) (D : Dat w) :
    Calls Tryd.prog 11 #[.slice A l.length c] w (EncPost w.heap.size l w) := by
  have hv := valid_any l A c w h
  obtain ⟨er, her⟩ : ∃ e, e = validR l := ⟨_, rfl⟩
  rw [← her] at hv
  by_cases h0 : er = 0
  · have hl : l.length ≤ 4096 := by
      refine Nat.le_of_not_lt fun g => ?_
      have : validR l = 3 := by unfold validR; rw [if_pos g]
      omega
    have hrun : run 0 l := by
      rw [← vw_run]
      have : validR l = vw 0 l := by unfold validR; rw [if_neg (by omega)]
      omega
    have HE := Lib.hid (show encL l = packR (valuesR l) by unfold encL; rw [if_pos (by omega)])
    have HU := Lib.hid h.u
    have HR := Lib.hid hrun
    have HV := Lib.hid hv
    have HD := Lib.hid D
    have VL := Lib.hid (values_len l.length l (Nat.le_refl _)).1
    have hcm' : c ≤ 9223372036854775807 := hcm
    subst h0
    obtain ⟨B0, hB0⟩ : ∃ B, B = w.heap.size := ⟨_, rfl⟩
    have HB0 := Lib.hid hB0
    rw [← hB0] at HU HV ⊢
    obtain ⟨L, hL⟩ : ∃ n, n = l.length := ⟨_, rfl⟩
    have HL := Lib.hid hL
    rw [← hL] at hl hc HV ⊢
    clear h hv her hrun D hcm hL hB0
    go_enter Tryd.func11, Tryd.ntmps11
    go_wp2_with fail
    refine HV.out.mono ?_
    rintro e w1 ⟨rfl, B1⟩
    have HB1 := Lib.hid B1
    clear B1
    go_wp2_with fail
    go_loopw [0, 5] (fun s v wr => ∃ (m : List Pul) (zs : List Int) (A' : Option Addr) (n c' : Nat), s = .slice A' n c' ∧ n ≤ 4096 ∧ n ≤ c' ∧ c' ≤ 9223372036854775807 ∧ Hid (n = m.length ∧ (∃ u, run u m) ∧ PRowU wr B0 A' m) ∧ Hid (Own .i64 3 wr B0 v zs ∧ valuesR l = zs ++ valuesR m) ∧ Hid (Below B0 w wr)) (fun s _ _ => slen s)
    case atStart => exact ⟨l, [], A, L, c, rfl, hl, hc, hcm', Lib.hid ⟨HL.out, ⟨0, HR.out⟩, HU.out.under HB1.out⟩, Lib.hid ⟨Own.nil, rfl⟩, HB1⟩
    case round =>
      clear HB1
      obtain ⟨m, zs, A', n, c', rfl, n1, n2, n3, M, O, B⟩ := hrel
      have hbw := Lib.hid (show B0 ≤ wr.heap.size by have := B.out.size; rw [← HB0.out] at this; exact this)
      by_cases hn : n = 0
      · have hm : m = [] := List.length_eq_zero_iff.1 (by have := M.out.1; omega)
        subst hm
        have e := O.out.2
        rw [values_nil, List.append_nil] at e
        have OO := O.out.1
        obtain ⟨A2, c2, rfl, R2⟩ := Own.rowB OO
        have HE2 := Lib.hid (HE.out.trans (by rw [e]))
        have cu := pack_any zs A2 c2 wr R2.1 R2.2 (HD.out.below B.out (by rw [HB0.out]; exact HD.out.lt))
        have CU := Lib.hid cu
        clear M O OO e R2 cu
        subst hn
        go_wp2_with fail
        refine CU.out.mono ?_
        rintro e w2 ⟨v2, rfl, O2, B2⟩
        have BW := Lib.hid (B.out.trans (B2.mono hbw.out))
        have O2' := Lib.hid (O2.base (base' := B0) hbw.out)
        clear O2 B2
        go_wp2_with fail
        refine bodyPost_ret (v := .tuple #[v2, .int .i64 (packR zs).2]) (by simp [results, Tryd.results11, go_sem]) rfl ⟨v2, ?_, ?_, by rw [← HB0.out]; exact BW.out⟩
        · rw [HE2.out]
        · rw [HE2.out]; exact O2'.out
      · have hne : m ≠ [] := fun e => hn (by rw [M.out.1, e]; rfl)
        obtain ⟨u, hu⟩ := M.out.2.1
        have hal := run_all hu
        have hg := glen_any m A' c' wr (M.out.2.2.p hbw.out) hal hne
        have hb := glen_bd hne
        have hvs := values_step hne
        rw [← M.out.1] at hg hb
        obtain ⟨j, hj⟩ : ∃ j, j = glen m := ⟨_, rfl⟩
        rw [← hj] at hg hb hvs
        have hdr := run_drop u m hu j (by omega)
        have HDR := Lib.hid hdr
        have HG := Lib.hid hg
        have HVS := Lib.hid hvs
        have HAL := Lib.hid hal
        have hpos : 0 < n := by omega
        have hj1 : 1 ≤ j := hb.1
        have hj8 : j ≤ 8 := hb.2.1
        have hjn : j ≤ n := hb.2.2
        have HNE := Lib.hid hne
        clear hne hu hal hg hb hvs hj hdr
        go_wp2_with fail
        refine HG.out.mono ?_
        rintro e w2 ⟨rfl, n4, rfl⟩
        clear HG
        go_wp2_with fail
        have tk : (m.take j).length = j := by rw [List.length_take]; have := M.out.1; omega
        have zl : zs.length ≤ 100000 := by
          have h1 := congrArg List.length O.out.2
          rw [List.length_append] at h1
          have := VL.out
          have := HL.out
          omega
        have ca := app_any (m.take j) A' c' zs u5 B0 (wr.drewN n4) ⟨(M.out.2.2.head j).row, (M.out.2.2.head j).len⟩ (HAL.out.take j) (fun e => by rw [e] at tk; simp at tk; omega) (O.out.1.drewN n4) hbw.out (by omega) zl
        rw [tk, tim_take hj1] at ca
        have CA := Lib.hid ca
        have HCUT := Lib.hid (M.out.2.2.cut j c' (by have := M.out.1; omega))
        have HML := Lib.hid M.out.1
        have HO2 := Lib.hid O.out.2
        clear ca tk zl M O
        refine CA.out.mono ?_
        rintro e w3 ⟨v3, rfl, O3, B3⟩
        have HO3 := Lib.hid O3
        have HB3 := Lib.hid ((bdn (n := n4) B.out).trans B3)
        have HC3 := Lib.hid (HCUT.out.under ((bdn (n := n4) (Below.refl B0 wr)).trans B3))
        clear O3 B3 CA
        go_wp2_with fail
        go_roundw
        case rel =>
          refine ⟨m.drop j, _, _, n - j, c' - j, rfl, by omega, by omega, by omega, Lib.hid ⟨by rw [List.length_drop, HML.out], HDR.out, HC3.out⟩, Lib.hid ⟨HO3.out, ?_⟩, HB3⟩
          rw [HO2.out, HVS.out]
          simp only [List.append_assoc]
        case measure => show n - j < n; omega
  · have HE := Lib.hid (enc_bad (l := l) (by omega))
    have hne : (er != 0) = true := by rw [bne_iff_ne]; exact h0
    have HV := Lib.hid hv
    have HR := Lib.hid her
    clear h hv D her h0
    go_enter Tryd.func11, Tryd.ntmps11
    go_wp2_with fail
    refine HV.out.mono ?_
    rintro e w1 ⟨rfl, B1⟩
    go_wp2_with fail
    exact bodyPost_ret (v := .tuple #[.slice none 0 0, .int .i64 er]) (by simp [results, Tryd.results11, go_sem]) rfl (EncPost.mk' HE.out (by rw [HR.out]) Own.nil B1)
end Go.Proofs.YtbpgbdnfoofnaaaDoor
