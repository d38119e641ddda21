/-
  Stage 11: the first error of a job: the program and the reference; Relation of both.
-/
import Derived.Test.YtpimdcljecipeaaJPlain
set_option linter.unusedSimpArgs false
set_option linter.unusedVariables false
namespace Go.Proofs.Ytpimdcljecipeaa
open Go.RowKit

def btw (n a b : Int) : Bool := decide (a ≤ n) && decide (n ≤ b)
theorem btw_iff {n a b : Int} : btw n a b = true ↔ a ≤ n ∧ n ≤ b := by unfold btw; simp
/-- The first error of the items behind a round. -/
def vwI (r : Int) : List It → Int
  | [] => 0
  | p :: l => if okI p then (if p.2.2.1 < r then 12 else vwI p.2.2.1 l) else 2
def validR (l : List It) (wt : Int) : Int := if 96 < l.length then 3 else if btw wt 0 12 = true then vwI 0 l else 2
theorem vwI_ok {r t b n g : Int} {l : List It} (ho : okI (t, b, n, g)) (h : ¬ n < r) : vwI r ((t, b, n, g) :: l) = vwI n l := by
  show (if okI (t, b, n, g) then (if n < r then 12 else vwI n l) else 2) = _
  rw [if_pos ho, if_neg h]
theorem vwI_less {r t b n g : Int} {l : List It} (ho : okI (t, b, n, g)) (h : n < r) : vwI r ((t, b, n, g) :: l) = 12 := by
  show (if okI (t, b, n, g) then (if n < r then 12 else vwI n l) else 2) = _
  rw [if_pos ho, if_pos h]
theorem vwI_bad {r t b n g : Int} {l : List It} (ho : ¬ okI (t, b, n, g)) : vwI r ((t, b, n, g) :: l) = 2 := by
  show (if okI (t, b, n, g) then (if n < r then 12 else vwI n l) else 2) = _
  rw [if_neg ho]
theorem vwI_all {r : Int} {l : List It} (h : vwI r l = 0) : ∀ p ∈ l, okI p := by
  induction l generalizing r with
  | nil => intro p hp; cases hp
  | cons q l ih =>
    have e : (if okI q then (if q.2.2.1 < r then 12 else vwI q.2.2.1 l) else 2) = (0 : Int) := h
    by_cases ho : okI q
    · rw [if_pos ho] at e
      by_cases hr : q.2.2.1 < r
      · rw [if_pos hr] at e; omega
      · rw [if_neg hr] at e
        intro p hp
        rcases List.mem_cons.1 hp with rfl | hp
        · exact ho
        · exact ih e p hp
    · rw [if_neg ho] at e; omega
theorem valid_ok {l : List It} {wt : Int} (h : validR l wt = 0) : l.length ≤ 96 ∧ (∀ p ∈ l, okI p) ∧ BlkOk l := by
  unfold validR at h
  by_cases h1 : 96 < l.length
  · rw [if_pos h1] at h; omega
  · rw [if_neg h1] at h
    by_cases h2 : btw wt 0 12 = true
    · rw [if_pos h2] at h
      refine ⟨by omega, vwI_all h, fun y hy => (vwI_all h _ (getD_memI hy)).2.1⟩
    · rw [if_neg h2] at h; omega
theorem drop_at {l : List It} {k : Nat} (hk : k < l.length) : l.drop k = l.getD k it0 :: l.drop (k + 1) := by
  rw [List.drop_eq_getElem_cons hk, List.getD_eq_getElem?_getD, List.getElem?_eq_getElem hk]; rfl

theorem between_any (n a b : Int) (w : World) : Calls Try.prog 32 #[.int .i64 n, .int .i64 a, .int .i64 b] w fun e w' => e = .returned (.bool (btw n a b)) ∧ w' = w := by
  by_cases h1 : a ≤ n
  · by_cases h2 : n ≤ b
    · have e : btw n a b = true := btw_iff.2 ⟨h1, h2⟩
      rw [e]
      go_enter Try.func32, Try.ntmps32
      go_wp2_with fail
      go_ret
      exact ⟨ret_bool (by first | (simp; done) | (simp; omega)), rfl⟩
    · have e : btw n a b = false := Bool.eq_false_iff.2 (fun g => h2 (btw_iff.1 g).2)
      rw [e]
      go_enter Try.func32, Try.ntmps32
      go_wp2_with fail
      go_ret
      exact ⟨ret_bool (by first | (simp; done) | (simp; omega)), rfl⟩
  · have e : btw n a b = false := Bool.eq_false_iff.2 (fun g => h1 (btw_iff.1 g).1)
    rw [e]
    go_enter Try.func32, Try.ntmps32
    go_wp2_with fail
    go_ret
    exact ⟨ret_bool (by first | (simp; done) | (simp; omega)), rfl⟩
theorem okI_dec {p : It} : decide (okI p) = (btw p.1 0 15 && (btw p.2.1 0 31 && (btw p.2.2.1 0 12 && btw p.2.2.2 1 400))) := by
  rw [Bool.eq_iff_iff, decide_eq_true_iff]
  unfold okI
  simp [btw]
set_option maxHeartbeats 800000 in
theorem inRange_any (t b n g : Int) (w : World) :
    Calls Try.prog 33 #[.agg #[.int .i64 t, .int .i64 b, .int .i64 n, .int .i64 g]] w fun e w' => e = .returned (.bool (decide (okI (t, b, n, g)))) ∧ Below w.heap.size w w' := by
  have e : decide (okI (t, b, n, g)) = (btw t 0 15 && (btw b 0 31 && (btw n 0 12 && btw g 1 400))) := okI_dec
  rw [e]
  clear e
  cases h1 : btw t 0 15
  · go_enter Try.func33, Try.ntmps33
    go_wp2_with fail
    refine (between_any _ _ _ _).mono ?_
    rintro e w1 ⟨rfl, rfl⟩
    rw [h1]
    go_wp2_with fail
    go_ret
    exact ⟨rfl, (Below.refl _ _).alloc (Nat.le_refl _) _⟩
  · cases h2 : btw b 0 31
    · go_enter Try.func33, Try.ntmps33
      go_wp2_with fail
      refine (between_any _ _ _ _).mono ?_
      rintro e w1 ⟨rfl, rfl⟩
      rw [h1]
      go_wp2_with fail
      refine (between_any _ _ _ _).mono ?_
      rintro e w1 ⟨rfl, rfl⟩
      rw [h2]
      go_wp2_with fail
      go_ret
      exact ⟨rfl, (Below.refl _ _).alloc (Nat.le_refl _) _⟩
    · cases h3 : btw n 0 12
      · go_enter Try.func33, Try.ntmps33
        go_wp2_with fail
        refine (between_any _ _ _ _).mono ?_
        rintro e w1 ⟨rfl, rfl⟩
        rw [h1]
        go_wp2_with fail
        refine (between_any _ _ _ _).mono ?_
        rintro e w1 ⟨rfl, rfl⟩
        rw [h2]
        go_wp2_with fail
        refine (between_any _ _ _ _).mono ?_
        rintro e w1 ⟨rfl, rfl⟩
        rw [h3]
        go_wp2_with fail
        go_ret
        exact ⟨rfl, (Below.refl _ _).alloc (Nat.le_refl _) _⟩
      · go_enter Try.func33, Try.ntmps33
        go_wp2_with fail
        refine (between_any _ _ _ _).mono ?_
        rintro e w1 ⟨rfl, rfl⟩
        rw [h1]
        go_wp2_with fail
        refine (between_any _ _ _ _).mono ?_
        rintro e w1 ⟨rfl, rfl⟩
        rw [h2]
        go_wp2_with fail
        refine (between_any _ _ _ _).mono ?_
        rintro e w1 ⟨rfl, rfl⟩
        rw [h3]
        go_wp2_with fail
        refine (between_any _ _ _ _).mono ?_
        rintro e w1 ⟨rfl, rfl⟩
        go_wp2_with fail
        go_ret
        exact ⟨ret_bool (by simp), (Below.refl _ _).alloc (Nat.le_refl _) _⟩
theorem index_any (A : Option Addr) (n c : Nat) (x : Int) (hn : n ≤ maxLen) (w : World) :
    Calls Try.prog 26 #[.slice A n c, .int .i64 x] w fun e w' => e = .returned (.bool (btw x 0 ((n : Int) - 1))) ∧ w' = w := by
  have hn' : n ≤ 9223372036854775807 := hn
  go_enter Try.func26, Try.ntmps26
  go_wp2_with fail
  refine (between_any _ _ _ _).mono ?_
  rintro e w1 ⟨rfl, rfl⟩
  go_wp2_with fail
  go_ret
  exact ⟨rfl, rfl⟩
/-- The job's value. -/
abbrev jv (A : Option Addr) (n c : Nat) (wt : Int) : Value := .agg #[.slice A n c, .int .i64 wt]
set_option maxHeartbeats 1600000 in
theorem valid_any (l : List It) (A : Option Addr) (c : Nat) (wt : Int) (w : World) (h : IRow w A l) :
    Calls Try.prog 19 #[jv A l.length c wt] w fun e w' => e = .returned (.int .i64 (validR l wt)) ∧ Below w.heap.size w w' := by
  have hl : l.length ≤ 9223372036854775807 := h.len
  have B0 := Lib.hid ((Below.refl w.heap.size w).alloc (Nat.le_refl _) (.cells #[.slice A l.length c, .int .i64 wt] 25))
  by_cases hbig : 96 < l.length
  · have HP := Lib.hid (show validR l wt = 3 by unfold validR; rw [if_pos hbig])
    have hb : (96 : Int) < (l.length : Int) := by omega
    clear h
    go_enter Try.func19, Try.ntmps19
    go_wp2_with fail
    go_ret
    exact ⟨ret_int HP.out.symm, B0.out⟩
  · cases hw : btw wt 0 12
    · have HP := Lib.hid (show validR l wt = 2 by unfold validR; rw [if_neg hbig, hw]; rfl)
      clear h
      go_enter Try.func19, Try.ntmps19
      go_wp2_with fail
      refine (between_any _ _ _ _).mono ?_
      rintro e w1 ⟨rfl, rfl⟩
      rw [hw]
      go_wp2_with fail
      go_ret
      exact ⟨ret_int HP.out.symm, B0.out⟩
    · have HP := Lib.hid (show validR l wt = vwI 0 l by unfold validR; rw [if_neg hbig, if_pos hw])
      have H := Lib.hid h
      have hnew : (w.alloc (.cells #[.slice A l.length c, .int .i64 wt] 25)).cell? ⟨w.heap.size, 0, none⟩ = some (.slice A l.length c) := by rw [cell_new]; rfl
      obtain ⟨L, hL⟩ : ∃ n, n = l.length := ⟨_, rfl⟩
      have HL := Lib.hid hL
      rw [← hL] at hl hbig hnew B0 ⊢
      clear h hL hnew
      go_enter Try.func19, Try.ntmps19
      go_wp2_with fail
      refine (between_any _ _ _ _).mono ?_
      rintro e w1 ⟨rfl, rfl⟩
      rw [hw]
      go_wp2_with fail
      go_loopw [3, 17] (fun b i wr => ∃ k : Nat, k ≤ L ∧ i = .int .i64 k ∧ ∃ r : Int, b = .int .i64 r ∧ Hid (vwI 0 l = vwI r (l.drop k)) ∧ Hid (Below w.heap.size w wr)) (fun _ i _ => L - (intOf i).toNat)
      case atStart => exact ⟨0, by omega, rfl, 0, rfl, Lib.hid rfl, B0⟩
      case round =>
        clear B0
        obtain ⟨k, hk, rfl, r, rfl, V, B⟩ := hrel
        by_cases hlt : k < L
        · obtain ⟨ad, rfl, C⟩ := (H.out.below B.out).at_ k (by rw [← HL.out]; exact hlt)
          have hd := drop_at (l := l) (k := k) (by rw [← HL.out]; exact hlt)
          obtain ⟨⟨t, b, n, g⟩, hp⟩ : ∃ p, p = l.getD k it0 := ⟨_, rfl⟩
          rw [← hp] at C hd
          have hv := V.out
          rw [hd] at hv
          have HV := Lib.hid hv
          obtain ⟨c0, c1, c2, c3⟩ := C.spelt
          clear hp hd hv V C
          go_wp2_with fail
          refine (inRange_any t b n g _).mono ?_
          rintro e w' ⟨rfl, B1⟩
          clear c0 c1 c2 c3
          have P1 := (IPl.new (w := wr) (p := (t, b, n, g)) (T := 44) wr.heap.size rfl).below B1
          have BB := Lib.hid (B.out.trans ((below1 B1).mono B.out.size))
          obtain ⟨p0, p1, p2, p3, plt⟩ := P1
          clear B1
          by_cases ho : okI (t, b, n, g)
          · have e1 : decide (okI (t, b, n, g)) = true := decide_eq_true ho
            have hv := HV.out
            rw [e1]
            clear e1
            by_cases hlt2 : n < r
            · have HV2 := Lib.hid (hv.trans (vwI_less ho hlt2))
              clear hv ho
              go_wp2_with fail
              go_ret
              exact ⟨ret_int (HP.out.trans HV2.out).symm, BB.out⟩
            · have HV2 := Lib.hid (hv.trans (vwI_ok ho hlt2))
              clear hv ho
              go_wp2_with fail
              go_roundw
              case rel => exact ⟨k + 1, by omega, by go_num, n, rfl, HV2, BB⟩
              case measure => simp [intOf]; omega
          · have e1 : decide (okI (t, b, n, g)) = false := decide_eq_false ho
            have HV2 := Lib.hid (HV.out.trans (vwI_bad ho))
            rw [e1]
            clear e1 ho
            go_wp2_with fail
            go_ret
            exact ⟨ret_int (HP.out.trans HV2.out).symm, BB.out⟩
        · obtain rfl : k = L := by omega
          have hv := V.out
          rw [HL.out, List.drop_length] at hv
          have HV := Lib.hid hv
          clear hv hlt hk
          go_wp2_with fail
          go_ret
          exact ⟨ret_int (HP.out.trans HV.out).symm, B.out⟩
end Go.Proofs.Ytpimdcljecipeaa
