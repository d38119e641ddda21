/-
  Stage 10: the walk of TreeExact.
-/
import Derived.Test.YteeoecegpnmafaaDoorTExact
import Derived.Test.YteeoecegpnmafaaDoorTSpoil
import Derived.Test.YteeoecegpnmafaaDoorMkFrom
import Derived.Test.YteeoecegpnmafaaDoorTOpen
set_option linter.unusedSimpArgs false
set_option linter.unusedVariables false
namespace Go.Proofs.YteeoecegpnmafaaDoor
open Go.RowKit Go.Lib

theorem szF_of {l : List El} (h : vlE [] l = 0) : SzF l := fun x hx => by
  obtain ⟨k, hk⟩ := List.mem_iff_getElem?.1 hx
  have := nameS_size (soundE_name (vl_at h hk).1)
  omega
theorem szE_of {l : List El} (h : SzF l) : SzE l := fun x hx => by
  have := h x hx
  unfold maxLen; omega
/-- What holds behind the made (and the spoiled) layout. -/
structure Xs (w wr : World) (m N : Nat) (A : Option Addr) (c : Nat) (l : List El) : Prop where
  own : ∃ base, ROwn ER 37 wr base (.slice A l.length c) l ∧ m < base
  kk : IsMk wr m N
  bel : Below w.heap.size w wr
  dw : Dor w
  sz : SzF l
  hm : m = w.heap.size
theorem Xs.row {w wr : World} {m N : Nat} {A : Option Addr} {c : Nat} {l : List El} (h : Xs w wr m N A c l) : LRow wr A c l := by
  obtain ⟨_, O, _⟩ := h.own
  exact lrow_of O (h.dw.below h.bel) (szE_of h.sz)
theorem Xs.moves {w a b : World} {m M N : Nat} {A : Option Addr} {c : Nat} {l : List El} (h : Xs w a m M A c l) (k : Moves m a b) (g : IsMk b m N) : Xs w b m N A c l := by
  obtain ⟨base, O, hb⟩ := h.own
  exact ⟨⟨base, O.moves k hb, hb⟩, g, k.below h.bel (by rw [h.hm]; exact Nat.le_refl _) h.bel.size, h.dw, h.sz, h.hm⟩
theorem Xs.below {w a b : World} {m M : Nat} {A : Option Addr} {c : Nat} {l : List El} (h : Xs w a m M A c l) (k : Below a.heap.size a b) : Xs w b m M A c l := by
  obtain ⟨base, O, hb⟩ := h.own
  exact ⟨⟨base, O.below k, hb⟩, h.kk.stays' k, h.bel.trans (k.mono h.bel.size), h.dw, h.sz, h.hm⟩
theorem Xs.of {w wr : World} {m base N : Nat} {A : Option Addr} {c : Nat} {l : List El} (h : Ly w wr m base N A c l) : Xs w wr m N A c l :=
  ⟨⟨base, h.own, h.lt⟩, h.kk, h.bel, h.dw, szF_of h.vl, h.hm⟩
theorem Xs.more {w a : World} {m M N : Nat} {A : Option Addr} {c : Nat} {l : List El} (h : Xs w a m M A c l) (k : M ≤ N) : Xs w a m N A c l :=
  ⟨h.own, h.kk.more k, h.bel, h.dw, h.sz, h.hm⟩
def SpilPost (w : World) (m M n : Nat) (e : Ending) (w' : World) : Prop := ∃ A c l, e = .returned (.slice A l.length c) ∧ Xs w w' m M A c l ∧ l.length ≤ n
theorem law_spoil {w wr : World} {m N : Nat} {A : Option Addr} {c : Nat} {l : List El} (h : Xs w wr m N A c l) (hN : N ≤ 10000000000) (hl : l.length ≤ 76) :
    Calls Tryd.prog 10 #[.pointer (some ⟨m, 0, none⟩), .slice A l.length c] wr (SpilPost w m (N + 3) 76) := by
  obtain ⟨base, O, hb⟩ := h.own
  have hA : A = none → l.length = 0 ∧ c = 0 := by
    intro e
    subst e
    rcases O.2 with ⟨e, h0⟩ | ⟨g, cap, cur, e, _⟩
    · injection e with e1 e2 e3
      exact ⟨e2, e3⟩
    · injection e with e1; cases e1
  refine (mspoill_any m N l A c wr h.kk hN h.row.row hA (by omega) h.sz).mono ?_
  rintro e w2 ⟨v, l2, rfl, O2, hl2, hz2, K2, V2⟩
  obtain ⟨A2, c2, rfl, _⟩ := O2.full
  exact ⟨A2, c2, l2, rfl, ⟨⟨_, O2, h.kk.lt⟩, K2, V2.below h.bel (by rw [h.hm]; exact Nat.le_refl _) h.bel.size, h.dw, hz2, h.hm⟩, by omega⟩
set_option maxRecDepth 100000 in
set_option maxHeartbeats 3200000 in
theorem exa_walk (A : Option Addr) (c : Nat) (zs : List Int) (lA : Option Addr) (lc : Nat) (l : List El) (i j : Int) (w : World) (D : Dor w) (hr : Row .i64 w w.heap.size A zs) (hm : zs.length ≤ maxLen) (hw : ∀ n ∈ zs, (Lit.int .i64 n).wf = true) (HL : LRow w lA lc l) (hf : SzF l) :
    Calls Tryd.prog 3 #[.slice A zs.length c, .slice lA l.length lc, .int .i64 i, .int .i64 j] w (BoolPost true w) := by
  have K := Lib.hid (mk_row (c := c) (T := 49) hr hm hw)
  have B := Lib.hid ((Below.refl w.heap.size w).alloc (Nat.le_refl _) (.cells #[.slice A zs.length c, .int .i64 0] 49))
  obtain ⟨m, hmm⟩ : ∃ m, m = w.heap.size := ⟨_, rfl⟩
  have HMM := Lib.hid hmm
  have DD := Lib.hid D
  have HX := Lib.hid (fun (W : World) (b : Below w.heap.size w W) => exact_any l lA lc i j W (HL.below b) hf)
  clear hr hw D HL hf
  go_enter Tryd.func3, Tryd.ntmps3
  go_wp2_with fail
  refine (new_any A zs.length c w).mono ?_
  rintro e w1 ⟨rfl, hw1⟩
  rw [← hw1] at K B
  rw [← hmm] at K ⊢
  clear hmm hw1 hm
  go_wp2_with fail
  go_loopw [10] (fun nv wr => ∃ n : Nat, n ≤ 4 ∧ nv = .int .i64 (n : Int) ∧ Hid (IsMk wr m (300 * n)) ∧ Hid (Below w.heap.size w wr)) (fun nv _ => 4 - (intOf nv).toNat)
  case atStart => exact ⟨0, by omega, rfl, Lib.hid (K.out.more (by omega)), B⟩
  case round =>
    clear K B
    obtain ⟨n, hn, rfl, HK, HBW⟩ := hrel
    by_cases hlt : n < 4
    · go_wp2_with fail
      refine (law_layout m 6 (300 * n) w wr DD.out HMM.out HK.out HBW.out (by omega) (by omega)).mono ?_
      rintro e w2 ⟨yA, yc, y, rfl, ⟨base, Y⟩, hl1, hl2⟩
      have Y2 := Lib.hid (Xs.of Y)
      clear Y HK HBW hl1
      by_cases h3 : n = 3
      · subst h3
        go_wp2_with fail
        refine (law_spoil Y2.out (by omega) hl2).mono ?_
        rintro e w3 ⟨zA, zc, z, rfl, Z0, hz⟩
        have Z := Lib.hid Z0
        clear Z0 Y2
        go_wp2_with fail
        refine (from_any m _ (-1) (z.length : Int) w3 Z.out.kk (by omega) (by omega) (by omega) (by omega)).mono ?_
        rintro e w4 ⟨u, rfl, _, _, k4, v4⟩
        have Z4 := Lib.hid (Z.out.moves v4 k4)
        clear k4 v4 Z
        go_wp2_with fail
        refine (from_any m _ (-1) (z.length : Int) w4 Z4.out.kk (by omega) (by omega) (by omega) (by omega)).mono ?_
        rintro e w5 ⟨u2, rfl, _, _, k5, v5⟩
        have Z5 := Lib.hid (Z4.out.moves v5 k5)
        clear k5 v5 Z4
        go_wp2_with fail
        refine (exact_any z zA zc u u2 w5 Z5.out.row Z5.out.sz).mono ?_
        rintro e w6 ⟨rfl, B6⟩
        have Z6 := Lib.hid (Z5.out.below B6)
        clear B6 Z5
        go_wp2_with fail
        refine (exact_any z zA zc i j w6 Z6.out.row Z6.out.sz).mono ?_
        rintro e w7 ⟨rfl, B7⟩
        have Z7 := Lib.hid (Z6.out.below B7)
        clear B7 Z6
        go_wp2_with fail
        go_roundw
        case rel => exact ⟨3 + 1, by omega, by go_num, Lib.hid (Z7.out.kk.more (by omega)), Lib.hid Z7.out.bel⟩
        case measure => simp [intOf]
      · have h3' : ((n : Int) == 3) = false := beq_eq_false_iff_ne.2 (by omega)
        have Z := Y2
        have hz := hl2
        clear Y2 hl2 h3
        go_wp2_with fail
        refine (from_any m _ (-1) (y.length : Int) w2 Z.out.kk (by omega) (by omega) (by omega) (by omega)).mono ?_
        rintro e w4 ⟨u, rfl, _, _, k4, v4⟩
        have Z4 := Lib.hid (Z.out.moves v4 k4)
        clear k4 v4 Z
        go_wp2_with fail
        refine (from_any m _ (-1) (y.length : Int) w4 Z4.out.kk (by omega) (by omega) (by omega) (by omega)).mono ?_
        rintro e w5 ⟨u2, rfl, _, _, k5, v5⟩
        have Z5 := Lib.hid (Z4.out.moves v5 k5)
        clear k5 v5 Z4
        go_wp2_with fail
        refine (exact_any y yA yc u u2 w5 Z5.out.row Z5.out.sz).mono ?_
        rintro e w6 ⟨rfl, B6⟩
        have Z6 := Lib.hid (Z5.out.below B6)
        clear B6 Z5
        go_wp2_with fail
        refine (exact_any y yA yc i j w6 Z6.out.row Z6.out.sz).mono ?_
        rintro e w7 ⟨rfl, B7⟩
        have Z7 := Lib.hid (Z6.out.below B7)
        clear B7 Z6
        go_wp2_with fail
        go_roundw
        case rel => exact ⟨n + 1, by omega, by go_num, Lib.hid (Z7.out.kk.more (by omega)), Lib.hid Z7.out.bel⟩
        case measure => simp [intOf]; omega
    · obtain rfl : n = 4 := by omega
      clear HK
      by_cases hlen : 40 < l.length
      · have hlen' : (40 : Int) < (l.length : Int) := by omega
        clear HX
        go_wp2_with fail
        go_ret
        exact ⟨rfl, HBW.out⟩
      · have hlen' : ¬ (40 : Int) < (l.length : Int) := by omega
        go_wp2_with fail
        refine (HX.out wr HBW.out).mono ?_
        rintro e w8 ⟨rfl, B8⟩
        have HB8 := Lib.hid (HBW.out.trans (B8.mono HBW.out.size))
        have HD8 := Lib.hid (DD.out.below HB8.out)
        clear B8 HX HBW
        go_wp2_with fail
        refine (sane_any _ HD8.out).mono ?_
        rintro e w9 ⟨rfl, B9⟩
        have HB9 := Lib.hid (HB8.out.trans (B9.mono HB8.out.size))
        clear B9 HB8
        go_wp2_with fail
        go_ret
        exact ⟨rfl, HB9.out⟩
end Go.Proofs.YteeoecegpnmafaaDoor
