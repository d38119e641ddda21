/-
  The walk of WagonnumberText.
-/
import Derived.Test.YtmhjdpmibfkhnaaExchangeWalk
set_option linter.unusedSimpArgs false
set_option linter.unusedVariables false
namespace Go.Proofs.Ytmhjdpmibfkhnaa
open Go.RowKit

theorem parse_fmt {s : ByteArray} (h : validR s = 0) : parseR (fmtS s) = (s, 0) := by
  obtain ⟨hz, hd, ho⟩ := validR_size h
  have e := cut_fmt hz
  have g : shp (fmtS s) = true := (fmt_cut (fmt_size hz)).1 (by rw [e])
  unfold parseR
  rw [if_pos g, e, if_pos (dgs_mk hz hd), if_pos h]
theorem parseR_eq (t : ByteArray) (h1 : shp t = true) (h2 : dgs (cutS t) 12 = true) : parseR t = if validR (cutS t) = 0 then (cutS t, 0) else (⟨#[]⟩, validR (cutS t)) := by
  unfold parseR; rw [if_pos h1, if_pos h2]
theorem parseR_no1 (t : ByteArray) (h1 : shp t = false) : parseR t = (⟨#[]⟩, 6) := by
  unfold parseR; rw [if_neg (by simp [h1])]
theorem parseR_no2 (t : ByteArray) (h1 : shp t = true) (h2 : dgs (cutS t) 12 = false) : parseR t = (⟨#[]⟩, 6) := by
  unfold parseR; rw [if_pos h1, if_neg (by simp [h2])]
theorem six_ne : ¬ ((6 : Int) = 0) := by decide
theorem fmt_parse {t : ByteArray} (h : (parseR t).2 = 0) : formatR (parseR t).1 = (t, 0) := by
  cases hs : shp t
  · rw [parseR_no1 t hs] at h
    exact absurd h six_ne
  · obtain ⟨hz, _⟩ := shp_t hs
    cases hd : dgs (cutS t) 12
    · rw [parseR_no2 t hs hd] at h
      exact absurd h six_ne
    · have e := parseR_eq t hs hd
      have e1 : fmtS (cutS t) = t := (fmt_cut hz).2 hs
      generalize cutS t = c at *
      by_cases hv : validR c = 0
      · have e2 : formatR c = (fmtS c, 0) := if_pos hv
        rw [if_pos hv] at e
        rw [e, e2, e1]
      · rw [if_neg hv] at e
        rw [e] at h
        exact absurd h hv

/-- A row that came in stays one. -/
theorem isRow_below {w w' : World} {a : Option Addr} {len cap : Nat} {zs : List Int} (h : IsRow .i64 w a len cap zs) (k : Below w.heap.size w w') : IsRow .i64 w' a len cap zs := by
  rcases h with h | ⟨x, h1, h2, h3, h4, h5, h6⟩
  · exact Or.inl h
  · refine Or.inr ⟨x, h1, h2, h3, h4, fun i hi => ?_, h6⟩
    have c := h5 i hi
    rw [k.cell (lt_of_cell c)]
    exact c

set_option maxHeartbeats 1600000 in
theorem text_walk (t : Option Addr) (len cap : Nat) (zs : List Int) (x : ByteArray) (w : World) (h : IsRow .i64 w t len cap zs) :
    Calls Try.prog 8 #[.slice t len cap, .string x] w fun e w' => e = .returned (.bool true) ∧ Below w.heap.size w w' := by
  have R0 := Rnd.new (T := 43) h
  go_enter Try.func8, Try.ntmps8
  go_wp2_with fail
  refine (new_any t len cap _).mono ?_
  rintro e w0 ⟨rfl, rfl⟩
  go_wp2_with fail
  refine (mnumber_any w.heap.size 0 4 _ R0.mkr (by omega) (by omega) (by omega)).mono ?_
  rintro e w1 ⟨s, rfl, hs, k1, k2⟩
  have R1 := R0.step k2 k1
  clear R0 k1 k2
  obtain ⟨g1, g2, g3⟩ := num_ok_of hs
  clear hs
  have hz := (dgs_t g1).1
  have hfz := fmt_size hz
  go_wp2_with fail
  refine (pformat_any _ _).mono ?_
  rintro e w' ⟨rfl, n, rfl⟩
  rw [show formatR s = (fmtS s, 0) from if_pos g3]
  have B1 : Below w.heap.size w (w1.drewN n) := bdn R1.bel
  clear R1
  go_wp2_with fail
  refine (pparse_any _ _).mono ?_
  rintro e w' ⟨rfl, m, rfl⟩
  rw [parse_fmt g3]
  have B2 : Below w.heap.size w ((w1.drewN n).drewN m) := bdn B1
  generalize (w1.drewN n).drewN m = w2 at *
  clear B1 g1 g2
  by_cases hx : (60 : Int) < (x.size : Int)
  · go_wp2_with fail
    go_ret
    exact ⟨rfl, B2⟩
  · have hl := B2.size
    go_wp2_with fail
    refine (new_any t len cap _).mono ?_
    rintro e w0 ⟨rfl, rfl⟩
    have h2 : IsRow .i64 w2 t len cap zs := isRow_below h B2
    have R2' := Rnd.new (T := 43) h2
    go_wp2_with fail
    refine (mspoil_any w2.heap.size 0 (fmtS s) _ R2'.mkr (by omega) (by omega)).mono ?_
    rintro e w3 ⟨y, rfl, hy, k1, k2⟩
    have B3 : Below w.heap.size w w3 := B2.trans ((R2'.step k2 k1).bel.mono hl)
    clear R2' k1 k2 h2 B2
    have hl3 := B3.size
    have C0 : (w3.alloc (.cells #[.string x, .string y] 9)).cell? ⟨w3.heap.size, 0, none⟩ = some (.string x) := by rw [cell_new]; rfl
    have C1 : (w3.alloc (.cells #[.string x, .string y] 9)).cell? ⟨w3.heap.size, 1, none⟩ = some (.string y) := by rw [cell_new]; rfl
    have B4 : Below w.heap.size w (w3.alloc (.cells #[.string x, .string y] 9)) := B3.alloc hl3 _
    have S4 : w3.heap.size < (w3.alloc (.cells #[.string x, .string y] 9)).heap.size := by simp
    go_upto_region 7 with fail
    generalize (w3.alloc (.cells #[.string x, .string y] 9)) = w4 at *
    generalize w3.heap.size = b at *
    have hl4 := B4.size
    clear B3 hl3
    go_loopw [63] (fun i wr => ∃ k : Nat, k ≤ 2 ∧ i = .int .i64 k ∧ Below w4.heap.size w4 wr) (fun i _ => 2 - (intOf i).toNat)
    case atStart => exact ⟨0, by omega, rfl, Below.refl _ _⟩
    case round =>
      obtain ⟨k, hk, rfl, B5⟩ := hrel
      by_cases hlt : k < 2
      · obtain ⟨z, hc⟩ : ∃ z : ByteArray, wr.cell? ⟨b, k, none⟩ = some (.string z) := by
          have e : k = 0 ∨ k = 1 := by omega
          rcases e with rfl | rfl
          · exact ⟨x, by rw [B5.cell (p := ⟨b, 0, none⟩) S4]; exact C0⟩
          · exact ⟨y, by rw [B5.cell (p := ⟨b, 1, none⟩) S4]; exact C1⟩
        have hd2 : decide ((k : Int) < 2) = true := decide_eq_true (by omega)
        have q0 : (0 : Int) ≤ (k : Int) := by omega
        have q1 : (k : Int) < 2 := by omega
        clear C0 C1
        by_cases hp : (parseR z).2 = 0
        · have hp' : ((parseR z).2 != 0) = false := by simp [hp]
          have HF := Lib.hid (fmt_parse hp)
          clear hp
          go_wp2_with fail
          refine (pparse_any _ _).mono ?_
          rintro e w' ⟨rfl, n1, rfl⟩
          go_wp2_with fail
          refine (pformat_any _ _).mono ?_
          rintro e w' ⟨rfl, n2, rfl⟩
          rw [HF.out]
          go_wp2_with fail
          exact ⟨⟨k + 1, by omega, by go_num, bdn B5⟩, by simp [intOf]; omega⟩
        · have hp' : ((parseR z).2 != 0) = true := by simp [hp]
          clear hp
          go_wp2_with fail
          refine (pparse_any _ _).mono ?_
          rintro e w' ⟨rfl, n1, rfl⟩
          go_wp2_with fail
          exact ⟨⟨k + 1, by omega, by go_num, bdn B5⟩, by simp [intOf]; omega⟩
      · obtain rfl : k = 2 := by omega
        go_wp2_with fail
        refine (sane_any _).mono ?_
        rintro e w' ⟨rfl, B6⟩
        go_wp2_with fail
        go_ret
        have B7 := B4.trans (B5.mono hl4)
        exact ⟨rfl, B7.trans (B6.mono B7.size)⟩

end Go.Proofs.Ytmhjdpmibfkhnaa
