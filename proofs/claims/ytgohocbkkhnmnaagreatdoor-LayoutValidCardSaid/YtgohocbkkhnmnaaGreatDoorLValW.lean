/-
  Stage 9: the walk of LayoutValid, given what the reference's Format does (RFmt: not yet proved).
-/
import Derived.Test.YtgohocbkkhnmnaaGreatDoorLSane
import Derived.Test.YtgohocbkkhnmnaaGreatDoorLRVal
import Derived.Test.YtgohocbkkhnmnaaGreatDoorTSpoil
import Derived.Test.YtgohocbkkhnmnaaGreatDoorTOpen
set_option linter.unusedSimpArgs false
set_option linter.unusedVariables false
namespace Go.Proofs.YtgohocbkkhnmnaaGreatDoor
open Go.RowKit Go.Lib

/-- The contract of the reference's Format: still to be proved. -/
def RFmt : Prop := ∀ (l : List El) (A : Option Addr) (c : Nat) (w : World), RRow ER w A l → SzF l → Calls Tryz.prog 14 #[.slice A l.length c] w (FmPost l w)
structure LR (w : World) (A : Option Addr) (c : Nat) (l : List El) : Prop where
  row : RRow ER w A l
  plain : PlainA A
  le : l.length ≤ c
  dor : Dor w
  sz : SzF l
theorem LR.below {w w' : World} {A : Option Addr} {c : Nat} {l : List El} (h : LR w A c l) (k : Below w.heap.size w w') : LR w' A c l := ⟨h.row.below k, h.plain, h.le, h.dor.below k, h.sz⟩
theorem szE_ofF {l : List El} (h : SzF l) : SzE l := fun x hx => by
  have := h x hx
  unfold maxLen; omega
set_option maxHeartbeats 1600000 in
theorem writes_any (RF : RFmt) {l : List El} {A : Option Addr} {c : Nat} {w : World} (h : LR w A c l) :
    Calls Tryz.prog 7 #[.slice A l.length c] w fun e w' => e = .returned (.bool true) ∧ Below w.heap.size w w' := by
  have H1 := Lib.hid (fmt_any l A c w h.row h.plain h.le h.dor (szE_ofF h.sz))
  have H2 := Lib.hid (fun (W : World) (b : Below w.heap.size w W) => RF l A c W (h.below b).row h.sz)
  have H3 := Lib.hid (fun (W : World) (b : Below w.heap.size w W) => valid_any l A c W (h.below b).row h.plain h.le (h.below b).dor (szE_ofF h.sz))
  have H4 := Lib.hid (fun (W : World) (b : Below w.heap.size w W) => rvalid_any l A c W (h.below b).row h.sz)
  clear h RF
  go_enter Tryz.func7, Tryz.ntmps7
  go_wp2_with fail
  refine H1.out.mono ?_
  rintro e w1 ⟨rfl, B1⟩
  have HB1 := Lib.hid B1
  clear B1 H1
  go_wp2_with fail
  refine (H2.out w1 HB1.out).mono ?_
  rintro e w2 ⟨rfl, B2⟩
  have HB2 := Lib.hid (HB1.out.trans (B2.mono HB1.out.size))
  clear B2 H2 HB1
  go_wp2_with fail
  refine (H3.out w2 HB2.out).mono ?_
  rintro e w3 ⟨rfl, B3⟩
  have HB3 := Lib.hid (HB2.out.trans (B3.mono HB2.out.size))
  clear B3 H3 HB2
  go_wp2_with fail
  refine (H4.out w3 HB3.out).mono ?_
  rintro e w4 ⟨rfl, B4⟩
  have HB4 := Lib.hid (HB3.out.trans (B4.mono HB3.out.size))
  clear B4 H4 HB3
  generalize validE l = ve at *
  go_wp2_with fail
  go_ret
  exact ⟨rfl, HB4.out⟩
/-- What holds behind the made (and the spoiled) layout. -/
structure Vs (w wr : World) (m N : Nat) (A : Option Addr) (c : Nat) (l : List El) : Prop where
  own : ∃ base, ROwn ER 35 wr base (.slice A l.length c) l ∧ m < base
  kk : IsMk wr m N
  bel : Below w.heap.size w wr
  dw : Dor w
  sz : SzF l
  hm : m = w.heap.size
theorem Vs.row {w wr : World} {m N : Nat} {A : Option Addr} {c : Nat} {l : List El} (h : Vs w wr m N A c l) : LR wr A c l := by
  obtain ⟨_, O, _⟩ := h.own
  obtain ⟨A', c', e, R, h1, _⟩ := O.full
  injection e with e1 e2 e3
  subst e1
  subst e3
  exact ⟨R, ROwn.plain O, h1, h.dw.below h.bel, h.sz⟩
theorem Vs.below {w a b : World} {m M : Nat} {A : Option Addr} {c : Nat} {l : List El} (h : Vs w a m M A c l) (k : Below a.heap.size a b) : Vs w b m M A c l := by
  obtain ⟨base, O, hb⟩ := h.own
  exact ⟨⟨base, O.below k, hb⟩, h.kk.stays' k, h.bel.trans (k.mono h.bel.size), h.dw, h.sz, h.hm⟩
def VsPost (w : World) (m M : Nat) (e : Ending) (w' : World) : Prop := ∃ A c l, e = .returned (.slice A l.length c) ∧ Vs w w' m M A c l ∧ l.length ≤ 76
theorem val_spoil {w wr : World} {m N : Nat} {A : Option Addr} {c : Nat} {l : List El} (h : Vs w wr m N A c l) (hN : N ≤ 10000000000) (hl : l.length ≤ 76) :
    Calls Tryz.prog 6 #[.pointer (some ⟨m, 0, none⟩), .slice A l.length c] wr (VsPost w m (N + 3)) := by
  obtain ⟨base, O, hb⟩ := h.own
  have hA : A = none → l.length = 0 ∧ c = 0 := by
    intro e
    subst e
    rcases O.2 with ⟨e, h0⟩ | ⟨g, cap, cur, e, _⟩
    · injection e with e1 e2 e3
      exact ⟨e2, e3⟩
    · injection e with e1; cases e1
  refine (mspoill_any m N l A c wr h.kk hN h.row.row hA (by omega) h.sz).mono ?_
  rintro e w2 ⟨v, l2, rfl, O2, hl2, hz2, K2, V2⟩
  obtain ⟨A2, c2, rfl, _⟩ := O2.full
  exact ⟨A2, c2, l2, rfl, ⟨⟨_, O2, h.kk.lt⟩, K2, V2.below h.bel (by rw [h.hm]; exact Nat.le_refl _) h.bel.size, h.dw, hz2, h.hm⟩, by omega⟩
theorem val_layout (m n N : Nat) (w w1 : World) (D : Dor w) (hm : m = w.heap.size) (K : IsMk w1 m N) (B : Below w.heap.size w w1) (hn : n ≤ 12) (hN : N ≤ 10000000000) :
    Calls Tryz.prog 5 #[.pointer (some ⟨m, 0, none⟩), .int .i64 (n : Int)] w1 (VsPost w m (N + 19 + 36 * n)) := by
  refine (mlayout_any m N n w1 K hN hn).mono ?_
  rintro e w2 ⟨v, l, rfl, O, HL, K2, V2⟩
  obtain ⟨h1, h2, h3, h4⟩ := HL
  obtain ⟨A, c, rfl, _⟩ := O.full
  exact ⟨A, c, l, rfl, ⟨⟨_, O, K.lt⟩, K2, V2.below B (by rw [hm]; exact Nat.le_refl _) B.size, D, (fun x hx => by obtain ⟨k, hk⟩ := List.mem_iff_getElem?.1 hx; have := nameS_size (soundE_name (vl_at h1.vl hk).1); omega), hm⟩, by omega⟩
set_option maxRecDepth 100000 in
set_option maxHeartbeats 3200000 in
theorem val_walk (RF : RFmt) (A : Option Addr) (c : Nat) (zs : List Int) (lA : Option Addr) (lc : Nat) (l : List El) (w : World) (D : Dor w) (hr : Row .i64 w w.heap.size A zs) (hm : zs.length ≤ maxLen) (hw : ∀ n ∈ zs, (Lit.int .i64 n).wf = true) (HL : LR w lA lc l) :
    Calls Tryz.prog 3 #[.slice A zs.length c, .slice lA l.length lc] w fun e w' => e = .returned (.bool true) ∧ Below w.heap.size w w' := by
  have K := Lib.hid (mk_row (c := c) (T := 32) hr hm hw)
  have B := Lib.hid ((Below.refl w.heap.size w).alloc (Nat.le_refl _) (.cells #[.slice A zs.length c, .int .i64 0] 32))
  obtain ⟨m, hmm⟩ : ∃ m, m = w.heap.size := ⟨_, rfl⟩
  have HMM := Lib.hid hmm
  have DD := Lib.hid D
  have HX := Lib.hid (fun (W : World) (b : Below w.heap.size w W) => writes_any RF (HL.below b))
  clear hr hw D HL
  go_enter Tryz.func3, Tryz.ntmps3
  go_wp2_with fail
  refine (new_any A zs.length c w).mono ?_
  rintro e w1 ⟨rfl, hw1⟩
  rw [← hw1] at K B
  rw [← hmm] at K ⊢
  clear hmm hw1 hm
  go_wp2_with fail
  go_loopw [6] (fun nv wr => ∃ n : Nat, n ≤ 6 ∧ nv = .int .i64 (n : Int) ∧ Hid (IsMk wr m (300 * n)) ∧ Hid (Below w.heap.size w wr)) (fun nv _ => 6 - (intOf nv).toNat)
  case atStart => exact ⟨0, by omega, rfl, Lib.hid (K.out.more (by omega)), B⟩
  case round =>
    clear K B
    obtain ⟨n, hn, rfl, HK, HBW⟩ := hrel
    by_cases hlt : n < 6
    · go_wp2_with fail
      refine (val_layout m 5 (300 * n) w wr DD.out HMM.out HK.out HBW.out (by omega) (by omega)).mono ?_
      rintro e w2 ⟨yA, yc, y, rfl, Y, hl2⟩
      have Y2 := Lib.hid Y
      clear Y HK HBW
      by_cases h0 : n = 0
      · subst h0
        have Z := Y2
        clear Y2
        go_wp2_with fail
        refine (writes_any RF Z.out.row).mono ?_
        rintro e w7 ⟨rfl, B7⟩
        have Z7 := Lib.hid (Z.out.below B7)
        clear B7 Z
        go_wp2_with fail
        go_roundw
        case rel => exact ⟨0 + 1, by omega, by go_num, Lib.hid (Z7.out.kk.more (by omega)), Lib.hid Z7.out.bel⟩
        case measure => simp [intOf]
      · have g0 : (0 : Int) < (n : Int) := by omega
        clear h0
        go_wp2_with fail
        refine (val_spoil Y2.out (by omega) hl2).mono ?_
        rintro e w3 ⟨zA, zc, z, rfl, Z0, hz⟩
        have Y3 := Lib.hid Z0
        clear Z0 Y2 hl2
        by_cases h3 : 3 < n
        · have g3 : (3 : Int) < (n : Int) := by omega
          clear h3
          go_wp2_with fail
          refine (val_spoil Y3.out (by omega) hz).mono ?_
          rintro e w4 ⟨uA, uc, u, rfl, Z0, hu⟩
          have Z := Lib.hid Z0
          clear Z0 Y3 hz
          go_wp2_with fail
          refine (writes_any RF Z.out.row).mono ?_
          rintro e w7 ⟨rfl, B7⟩
          have Z7 := Lib.hid (Z.out.below B7)
          clear B7 Z
          go_wp2_with fail
          go_roundw
          case rel => exact ⟨n + 1, by omega, by go_num, Lib.hid (Z7.out.kk.more (by omega)), Lib.hid Z7.out.bel⟩
          case measure => simp [intOf]; omega
        · have g3 : ¬ (3 : Int) < (n : Int) := by omega
          have Z := Y3
          clear h3 Y3
          go_wp2_with fail
          refine (writes_any RF Z.out.row).mono ?_
          rintro e w7 ⟨rfl, B7⟩
          have Z7 := Lib.hid (Z.out.below B7)
          clear B7 Z
          go_wp2_with fail
          go_roundw
          case rel => exact ⟨n + 1, by omega, by go_num, Lib.hid (Z7.out.kk.more (by omega)), Lib.hid Z7.out.bel⟩
          case measure => simp [intOf]; omega
    · obtain rfl : n = 6 := by omega
      clear HK
      by_cases hlen : 40 < l.length
      · have hlen' : (40 : Int) < (l.length : Int) := by omega
        clear HX
        go_wp2_with fail
        go_ret
        exact ⟨rfl, HBW.out⟩
      · have hlen' : ¬ (40 : Int) < (l.length : Int) := by omega
        go_wp2_with fail
        refine (HX.out wr HBW.out).mono ?_
        rintro e w8 ⟨rfl, B8⟩
        have HB8 := Lib.hid (HBW.out.trans (B8.mono HBW.out.size))
        have HD8 := Lib.hid (DD.out.below HB8.out)
        clear B8 HX HBW
        go_wp2_with fail
        refine (sane_any _ HD8.out).mono ?_
        rintro e w9 ⟨rfl, B9⟩
        have HB9 := Lib.hid (HB8.out.trans (B9.mono HB8.out.size))
        clear B9 HB8
        go_wp2_with fail
        go_ret
        exact ⟨rfl, HB9.out⟩
end Go.Proofs.YtgohocbkkhnmnaaGreatDoor
