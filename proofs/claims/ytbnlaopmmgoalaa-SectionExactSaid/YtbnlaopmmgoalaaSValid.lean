/-
  The first error of a list of pulses: the program and the reference.
-/
import Derived.Test.YtbnlaopmmgoalaaTri
set_option linter.unusedSimpArgs false
set_option linter.unusedVariables false
namespace Go.Proofs.Ytbnlaopmmgoalaa
open Go.RowKit

theorem ok_dec {p : Pul} {b : Bool} (h : b = true ↔ okP p) : b = decide (okP p) := by
  cases b with
  | true => exact (decide_eq_true (h.1 rfl)).symm
  | false => exact (decide_eq_false (fun g => by have := h.2 g; cases this)).symm
set_option maxHeartbeats 800000 in
theorem inRange_any (d t s : Int) (w : World) :
    Calls Try.prog 36 #[.agg #[.int .i64 d, .int .i64 t, .int .i64 s]] w fun e w' => e = .returned (.bool (decide (okP (d, t, s)))) ∧ Below w.heap.size w w' := by
  by_cases h1 : 0 ≤ d
  · by_cases h2 : d ≤ 31
    · by_cases h3 : 0 ≤ t
      · by_cases h4 : t ≤ 1000000000
        · by_cases h5 : s = 1
          · subst h5
            go_enter Try.func36, Try.ntmps36
            go_wp2
            go_ret
            exact ⟨ret_bool (ok_dec (by unfold okP; simp; omega)), (Below.refl _ _).alloc (Nat.le_refl _) _⟩
          · have h5' : (s == 1) = false := by rw [beq_eq_false_iff_ne]; exact h5
            go_enter Try.func36, Try.ntmps36
            go_wp2
            go_ret
            exact ⟨ret_bool (ok_dec (by unfold okP; simp; omega)), (Below.refl _ _).alloc (Nat.le_refl _) _⟩
        · go_enter Try.func36, Try.ntmps36
          go_wp2
          go_ret
          exact ⟨ret_bool (ok_dec (by unfold okP; simp; omega)), (Below.refl _ _).alloc (Nat.le_refl _) _⟩
      · go_enter Try.func36, Try.ntmps36
        go_wp2
        go_ret
        exact ⟨ret_bool (ok_dec (by unfold okP; simp; omega)), (Below.refl _ _).alloc (Nat.le_refl _) _⟩
    · go_enter Try.func36, Try.ntmps36
      go_wp2
      go_ret
      exact ⟨ret_bool (ok_dec (by unfold okP; simp; omega)), (Below.refl _ _).alloc (Nat.le_refl _) _⟩
  · go_enter Try.func36, Try.ntmps36
    go_wp2
    go_ret
    exact ⟨ret_bool (ok_dec (by unfold okP; simp; omega)), (Below.refl _ _).alloc (Nat.le_refl _) _⟩
set_option maxHeartbeats 800000 in
theorem sound_any (d t s : Int) (w : World) :
    Calls Try.prog 38 #[.agg #[.int .i64 d, .int .i64 t, .int .i64 s]] w fun e w' => e = .returned (.bool (decide (okP (d, t, s)))) ∧ Below w.heap.size w w' := by
  by_cases h1 : 0 ≤ d
  · by_cases h2 : d ≤ 31
    · by_cases h3 : 0 ≤ t
      · by_cases h4 : t ≤ 1000000000
        · by_cases h5 : s = 1
          · subst h5
            go_enter Try.func38, Try.ntmps38
            go_wp2
            go_ret
            exact ⟨ret_bool (ok_dec (by unfold okP; simp; omega)), (Below.refl _ _).alloc (Nat.le_refl _) _⟩
          · have h5' : (s == 1) = false := by rw [beq_eq_false_iff_ne]; exact h5
            go_enter Try.func38, Try.ntmps38
            go_wp2
            go_ret
            exact ⟨ret_bool (ok_dec (by unfold okP; simp; omega)), (Below.refl _ _).alloc (Nat.le_refl _) _⟩
        · go_enter Try.func38, Try.ntmps38
          go_wp2
          go_ret
          exact ⟨ret_bool (ok_dec (by unfold okP; simp; omega)), (Below.refl _ _).alloc (Nat.le_refl _) _⟩
      · go_enter Try.func38, Try.ntmps38
        go_wp2
        go_ret
        exact ⟨ret_bool (ok_dec (by unfold okP; simp; omega)), (Below.refl _ _).alloc (Nat.le_refl _) _⟩
    · go_enter Try.func38, Try.ntmps38
      go_wp2
      go_ret
      exact ⟨ret_bool (ok_dec (by unfold okP; simp; omega)), (Below.refl _ _).alloc (Nat.le_refl _) _⟩
  · go_enter Try.func38, Try.ntmps38
    go_wp2
    go_ret
    exact ⟨ret_bool (ok_dec (by unfold okP; simp; omega)), (Below.refl _ _).alloc (Nat.le_refl _) _⟩
set_option maxHeartbeats 800000 in
theorem valid_any (l : List Pul) (A : Option Addr) (c : Nat) (w : World) (h : PRow w A l) :
    Calls Try.prog 32 #[.slice A l.length c] w fun e w' => e = .returned (.int .i64 (validR l)) ∧ Below w.heap.size w w' := by
  have hl : l.length ≤ 9223372036854775807 := h.len
  by_cases hbig : 4096 < l.length
  · have HP := Lib.hid (show validR l = 3 by unfold validR; rw [if_pos hbig])
    have hb : (4096 : Int) < (l.length : Int) := by omega
    clear h
    go_enter Try.func32, Try.ntmps32
    go_wp2_with fail
    go_ret
    exact ⟨ret_int HP.out.symm, Below.refl _ _⟩
  · have H := Lib.hid h
    have HP := Lib.hid (show validR l = vw 0 l by unfold validR; rw [if_neg hbig])
    obtain ⟨L, hL⟩ : ∃ n, n = l.length := ⟨_, rfl⟩
    have HL := Lib.hid hL
    rw [← hL] at hl hbig ⊢
    clear h hL
    go_enter Try.func32, Try.ntmps32
    go_wp2_with fail
    go_loopw [3, 11] (fun b i wr => ∃ k : Nat, k ≤ L ∧ i = .int .i64 k ∧ ∃ t : Int, b = .int .i64 t ∧ Hid (vw 0 l = vw t (l.drop k)) ∧ Hid (Below w.heap.size w wr)) (fun _ i _ => L - (intOf i).toNat)
    case atStart => exact ⟨0, by omega, rfl, 0, rfl, Lib.hid rfl, Lib.hid (Below.refl _ _)⟩
    case round =>
      obtain ⟨k, hk, rfl, t, rfl, V, B⟩ := hrel
      by_cases hlt : k < L
      · obtain ⟨ad, rfl, C⟩ := (H.out.below B.out).at_ k (by rw [← HL.out]; exact hlt)
        have hd := drop_at (l := l) (k := k) (by rw [← HL.out]; exact hlt)
        obtain ⟨⟨d, tt, s⟩, hp⟩ : ∃ p, p = l.getD k (0, 0, 0) := ⟨_, rfl⟩
        rw [← hp] at C hd
        have hv := V.out
        rw [hd] at hv
        have HV := Lib.hid hv
        obtain ⟨c0, c1, c2⟩ := C.spelt
        have HC := Lib.hid C
        clear C
        clear hp hd hv V
        go_wp2_with fail
        refine (inRange_any d tt s _).mono ?_
        rintro e w' ⟨rfl, B1⟩
        clear c0 c1 c2
        have P1 := (Pl.new (w := wr) (p := (d, tt, s)) (T := 40) wr.heap.size rfl).below B1
        have BB := Lib.hid (B.out.trans ((below1 B1).mono B.out.size))
        obtain ⟨p0, p1, p2, plt⟩ := P1
        clear B1
        by_cases ho : okP (d, tt, s)
        · have e1 : decide (okP (d, tt, s)) = true := decide_eq_true ho
          have hv := HV.out
          have e2 : vw t ((d, tt, s) :: l.drop (k + 1)) = if tt < t then 12 else vw tt (l.drop (k + 1)) := by
            show (if okP (d, tt, s) then _ else _) = _
            rw [if_pos ho]
          rw [e2] at hv
          clear e2
          rw [e1]
          clear e1
          by_cases hlt2 : tt < t
          · rw [if_pos hlt2] at hv
            have HV2 := Lib.hid hv
            clear hv ho
            go_wp2_with fail
            go_ret
            exact ⟨ret_int (HP.out.trans HV2.out).symm, BB.out⟩
          · rw [if_neg hlt2] at hv
            have HV2 := Lib.hid hv
            clear hv ho
            go_wp2_with fail
            go_roundw
            case rel => exact ⟨k + 1, by omega, by go_num, tt, rfl, HV2, BB⟩
            case measure => simp [intOf]; omega
        · have e1 : decide (okP (d, tt, s)) = false := decide_eq_false ho
          have hv := HV.out
          have e2 : vw t ((d, tt, s) :: l.drop (k + 1)) = 1 := by
            show (if okP (d, tt, s) then _ else _) = _
            rw [if_neg ho]
          rw [e2] at hv
          have HV2 := Lib.hid hv
          rw [e1]
          clear e1 e2 hv ho
          go_wp2_with fail
          go_ret
          exact ⟨ret_int (HP.out.trans HV2.out).symm, BB.out⟩
      · obtain rfl : k = L := by omega
        have hv := V.out
        rw [HL.out, List.drop_length] at hv
        have HV := Lib.hid hv
        clear hv hlt hk
        go_wp2_with fail
        go_ret
        exact ⟨ret_int (HP.out.trans HV.out).symm, B.out⟩
/-- The time before the element k. -/
def bef (l : List Pul) : Nat → Int
  | 0 => 0
  | k + 1 => (l.getD k (0, 0, 0)).2.1
theorem vw_ok {t d tt s : Int} {l : List Pul} (ho : okP (d, tt, s)) (h : ¬ tt < t) : vw t ((d, tt, s) :: l) = vw tt l := by
  show (if okP (d, tt, s) then (if tt < t then 12 else vw tt l) else 1) = _
  rw [if_pos ho, if_neg h]
theorem vw_less {t d tt s : Int} {l : List Pul} (ho : okP (d, tt, s)) (h : tt < t) : vw t ((d, tt, s) :: l) = 12 := by
  show (if okP (d, tt, s) then (if tt < t then 12 else vw tt l) else 1) = _
  rw [if_pos ho, if_pos h]
theorem vw_bad {t d tt s : Int} {l : List Pul} (ho : ¬ okP (d, tt, s)) : vw t ((d, tt, s) :: l) = 1 := by
  show (if okP (d, tt, s) then (if tt < t then 12 else vw tt l) else 1) = _
  rw [if_neg ho]
set_option maxHeartbeats 800000 in
theorem rvalid_any (l : List Pul) (A : Option Addr) (c : Nat) (w : World) (h : PRow w A l) :
    Calls Try.prog 37 #[.slice A l.length c] w fun e w' => e = .returned (.int .i64 (validR l)) ∧ Below w.heap.size w w' := by
  have hl : l.length ≤ 9223372036854775807 := h.len
  by_cases hbig : 4096 < l.length
  · have HP := Lib.hid (show validR l = 3 by unfold validR; rw [if_pos hbig])
    have hb : (4096 : Int) < (l.length : Int) := by omega
    clear h
    go_enter Try.func37, Try.ntmps37
    go_wp2_with fail
    go_ret
    exact ⟨ret_int HP.out.symm, Below.refl _ _⟩
  · have H := Lib.hid h
    have HP := Lib.hid (show validR l = vw 0 l by unfold validR; rw [if_neg hbig])
    obtain ⟨L, hL⟩ : ∃ n, n = l.length := ⟨_, rfl⟩
    have HL := Lib.hid hL
    rw [← hL] at hl hbig ⊢
    clear h hL
    go_enter Try.func37, Try.ntmps37
    go_wp2_with fail
    go_loopw [3] (fun i wr => ∃ k : Nat, k ≤ L ∧ i = .int .i64 k ∧ Hid (vw 0 l = vw (bef l k) (l.drop k)) ∧ Hid (Below w.heap.size w wr)) (fun i _ => L - (intOf i).toNat)
    case atStart => exact ⟨0, by omega, rfl, Lib.hid rfl, Lib.hid (Below.refl _ _)⟩
    case round =>
      obtain ⟨k, hk, rfl, V, B⟩ := hrel
      by_cases hlt : k < L
      · obtain ⟨ad, rfl, C⟩ := (H.out.below B.out).at_ k (by rw [← HL.out]; exact hlt)
        have hd := drop_at (l := l) (k := k) (by rw [← HL.out]; exact hlt)
        have hbn : bef l (k + 1) = (l.getD k (0, 0, 0)).2.1 := rfl
        obtain ⟨⟨d, tt, s⟩, hp⟩ : ∃ p, p = l.getD k (0, 0, 0) := ⟨_, rfl⟩
        rw [← hp] at C hd hbn
        have hv := V.out
        rw [hd] at hv
        have HV := Lib.hid hv
        have HBN := Lib.hid hbn
        obtain ⟨c0, c1, c2⟩ := C.spelt
        have HC := Lib.hid C
        clear hp hd hv V C hbn
        go_wp2_with fail
        refine (sound_any d tt s _).mono ?_
        rintro e w' ⟨rfl, B1⟩
        have HC1 := Lib.hid (HC.out.below B1)
        have BB := Lib.hid (B.out.trans (B1.mono B.out.size))
        clear c0 c1 c2 B1
        by_cases ho : okP (d, tt, s)
        · have e1 : decide (okP (d, tt, s)) = true := decide_eq_true ho
          rw [e1]
          have HO := Lib.hid ho
          clear e1 ho
          cases k with
          | zero =>
            have HV2 := Lib.hid (HV.out.trans (vw_ok HO.out (by have h0 : 0 ≤ tt := HO.out.2.1.1; show ¬ tt < 0; omega)))
            go_wp2_with fail
            go_quiet (fail)
            go_wp2_with fail
            go_roundw
            case rel => exact ⟨1, by omega, rfl, Lib.hid (by rw [HBN.out]; exact HV2.out), Lib.hid (bdn BB.out)⟩
            case measure => simp [intOf]; omega
          | succ m =>
            obtain ⟨ad', e', C'⟩ := (H.out.below BB.out).at_ m (by rw [← HL.out]; omega)
            obtain rfl : ad = ad' := by injection e'
            have hbm : bef l (m + 1) = (l.getD m (0, 0, 0)).2.1 := rfl
            obtain ⟨⟨d', t, s'⟩, hp⟩ : ∃ p, p = l.getD m (0, 0, 0) := ⟨_, rfl⟩
            rw [← hp] at C' hbm
            obtain ⟨c0, c1, c2⟩ := HC1.out.spelt
            obtain ⟨g0, g1, g2⟩ := C'.spelt
            have HBM := Lib.hid hbm
            clear e' hp hbm C'
            simp only at c0 c1 c2 g0 g1 g2
            go_wp2_with fail
            go_quiet (fail)
            clear c0 c1 c2 g0 g1 g2
            have hv := HV.out
            rw [HBM.out] at hv
            by_cases hlt2 : tt < t
            · have HV2 := Lib.hid (hv.trans (vw_less HO.out hlt2))
              clear hv
              go_wp2_with fail
              go_ret
              exact ⟨ret_int (HP.out.trans HV2.out).symm, bdn BB.out⟩
            · have HV2 := Lib.hid (hv.trans (vw_ok HO.out hlt2))
              clear hv
              go_wp2_with fail
              go_roundw
              case rel => exact ⟨m + 2, by omega, by go_num, Lib.hid (by rw [HBN.out]; exact HV2.out), Lib.hid (bdn BB.out)⟩
              case measure => simp [intOf]; omega
        · have e1 : decide (okP (d, tt, s)) = false := decide_eq_false ho
          have HV2 := Lib.hid (HV.out.trans (vw_bad ho))
          rw [e1]
          clear e1 ho
          go_wp2_with fail
          go_ret
          exact ⟨ret_int (HP.out.trans HV2.out).symm, BB.out⟩
      · obtain rfl : k = L := by omega
        have hv := V.out
        rw [HL.out, List.drop_length] at hv
        have HV := Lib.hid hv
        clear hv hlt hk
        go_wp2_with fail
        go_ret
        exact ⟨ret_int (HP.out.trans HV.out).symm, B.out⟩
end Go.Proofs.Ytbnlaopmmgoalaa
