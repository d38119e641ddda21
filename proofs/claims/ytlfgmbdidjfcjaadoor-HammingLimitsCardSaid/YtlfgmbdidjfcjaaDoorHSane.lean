/-
  Stage 3: the laws' sanity check; the three laws of the code.
-/
import Derived.Test.YtlfgmbdidjfcjaaDoorHDec
set_option linter.unusedSimpArgs false
set_option linter.unusedVariables false
namespace Go.Proofs.YtlfgmbdidjfcjaaDoor
open Go.RowKit

theorem enc1 : encR 1 = (15, 0) := by decide +kernel
theorem dec14 : decR 14 = (1, 0, 0) := by decide +kernel
theorem dec12 : decR 12 = (0, 0, 9) := by decide +kernel
theorem below_dn (w : World) (n : Nat) : Below w.heap.size w (w.drewN n) := bdn (Below.refl _ _)
theorem encode_at {v : Int} {t : Int × Int} (h : encR v = t) (w : World) (D : Dat w) :
    Calls Tryd.prog 14 #[.int .i64 v] w fun e w' => e = .returned (R2 t) ∧ ∃ n, w' = w.drewN n := by rw [← h]; exact encode_any v w D
theorem decode_at {v : Int} {t : Int × Int × Int} (h : decR v = t) (w : World) (D : Dat w) :
    Calls Tryd.prog 16 #[.int .i64 v] w fun e w' => e = .returned (R3 t) ∧ w = w' := by rw [← h]; exact decode_any v w D
theorem sane_any (w : World) (D : Dat w) : Calls Tryd.prog 12 #[] w fun e w' => e = .returned (.bool true) ∧ ∃ n, w' = w.drewN n := by
  go_enter Tryd.func12, Tryd.ntmps12
  go_wp2_with fail
  refine (encode_at enc1 _ D).mono ?_
  rintro e w' ⟨rfl, n, rfl⟩
  go_wp2_with fail
  refine (decode_at dec14 _ (D.drewN n)).mono ?_
  rintro e w' ⟨rfl, rfl⟩
  go_wp2_with fail
  refine (decode_at dec12 _ (D.drewN n)).mono ?_
  rintro e w' ⟨rfl, rfl⟩
  go_wp2_with fail
  go_ret
  exact ⟨rfl, n, rfl⟩

/-- A number brought into the range of values. -/
theorem val_nat (v : Int) : ∃ n : Nat, n < 2048 ∧ (v.tmod 2048 + 2048) % 2048 = (n : Int) ∧ v.tmod 2048 % 2048 = (n : Int) := by
  have := tmod_bd v 2048 (by decide)
  exact ⟨((v.tmod 2048 + 2048) % 2048).toNat, by omega, by omega, by omega⟩
theorem encode_nat {v x : Nat} (h : v < 2048) (hx : x = encN v) (w : World) (D : Dat w) :
    Calls Tryd.prog 14 #[.int .i64 v] w fun e w' => e = .returned (R2 ((x : Int), 0)) ∧ ∃ n, w' = w.drewN n := encode_ok' v x hx w h D
theorem decode_nat {v : Nat} (h : v < 65536) {t : Int × Int × Int} (ht : decN v = t) (w : World) (D : Dat w) :
    Calls Tryd.prog 16 #[.int .i64 v] w fun e w' => e = .returned (R3 t) ∧ w = w' := by rw [← ht]; exact decode_ok v w h D

set_option maxHeartbeats 800000 in
theorem corrects_walk (v : Int) (w : World) (D : Dat w) :
    Calls Tryd.prog 5 #[.int .i64 v] w fun e w' => e = .returned (.bool true) ∧ Below w.heap.size w w' := by
  obtain ⟨n, ln, hn⟩ := val_nat v
  obtain ⟨x, hx⟩ : ∃ x, x = encN n := ⟨_, rfl⟩
  have lx : x < 65536 := by rw [hx]; exact (enc_ok ln).1
  have HD := Lib.hid (show decN x = ((n : Int), -1, 0) by rw [hx]; exact dec_enc ln)
  have HP := Lib.hid (show ∀ p, p < 16 → decN (x ^^^ 1 <<< p) = ((n : Int), (p : Int), 0) by rw [hx]; exact fun p hp => dec_one ln hp)
  have HX := Lib.hid hx
  have HN := Lib.hid hn
  clear hx hn
  have ht := tmod_bd v 2048 (by decide)
  go_enter Tryd.func5, Tryd.ntmps5
  go_wp2_with fail
  rw [HN.out.1, HN.out.2]
  clear ht
  refine (encode_nat ln HX.out _ D).mono ?_
  rintro e w' ⟨rfl, m, rfl⟩
  have D1 := D.drewN m
  have B1 := below_dn w m
  obtain ⟨w1, e1⟩ : ∃ w1, w1 = w.drewN m := ⟨_, rfl⟩
  rw [← e1] at D1 B1 ⊢
  have HB := Lib.hid B1
  clear e1 B1 D
  go_wp2_with fail
  refine (decode_nat lx HD.out _ D1).mono ?_
  rintro e w' ⟨rfl, rfl⟩
  go_wp2_with fail
  go_loop [8] (fun i => ∃ k : Nat, k ≤ 16 ∧ i = .int .i64 k) (fun i => 16 - (intOf i).toNat)
  case atStart => exact ⟨0, by omega, rfl⟩
  case round =>
    obtain ⟨k, hk, rfl⟩ := hrel
    by_cases hlt : k < 16
    · have fr := flip_run x k lx hlt
      have ly : x ^^^ oneN k < 65536 := xor_lt lx (sh_lt hlt)
      have dy : decN (x ^^^ oneN k) = ((n : Int), (k : Int), 0) := HP.out k hlt
      obtain ⟨y, hy⟩ : ∃ y, y = x ^^^ oneN k := ⟨_, rfl⟩
      rw [← hy] at fr ly dy
      have DY := Lib.hid dy
      clear hy dy
      go_wp2_with fail
      refine (decode_nat ly DY.out _ D1).mono ?_
      rintro e w' ⟨rfl, rfl⟩
      clear fr
      go_wp2_with fail
      go_round
      case rel => exact ⟨k + 1, by omega, by go_num⟩
      case measure => simp [intOf]; omega
    · go_wp2_with fail
      refine (sane_any _ D1).mono ?_
      rintro e w' ⟨rfl, j, rfl⟩
      go_wp2_with fail
      go_ret
      exact ⟨rfl, bdn HB.out⟩

set_option maxHeartbeats 800000 in
theorem finds_walk (v : Int) (w : World) (D : Dat w) :
    Calls Tryd.prog 6 #[.int .i64 v] w fun e w' => e = .returned (.bool true) ∧ Below w.heap.size w w' := by
  obtain ⟨n, ln, hn⟩ := val_nat v
  obtain ⟨x, hx⟩ : ∃ x, x = encN n := ⟨_, rfl⟩
  have lx : x < 65536 := by rw [hx]; exact (enc_ok ln).1
  have HP := Lib.hid (show ∀ p, p < 16 → ∀ q, q < p → decN (x ^^^ 1 <<< p ^^^ 1 <<< q) = (0, 0, 9) by rw [hx]; exact fun p hp q hq => dec_two ln hp (by omega) (by omega))
  have HX := Lib.hid hx
  have HN := Lib.hid hn
  clear hx hn
  have ht := tmod_bd v 2048 (by decide)
  go_enter Tryd.func6, Tryd.ntmps6
  go_wp2_with fail
  rw [HN.out.1, HN.out.2]
  clear ht
  refine (encode_nat ln HX.out _ D).mono ?_
  rintro e w' ⟨rfl, m, rfl⟩
  have D1 := D.drewN m
  have B1 := below_dn w m
  obtain ⟨w1, e1⟩ : ∃ w1, w1 = w.drewN m := ⟨_, rfl⟩
  rw [← e1] at D1 B1 ⊢
  have HB := Lib.hid B1
  have HD := Lib.hid D1
  clear e1 B1 D D1
  go_wp2_with fail
  go_loopw [5] (fun i wr => (Hid (Below w.heap.size w wr) ∧ Hid (Dat wr)) ∧ ∃ p : Nat, p ≤ 16 ∧ i = .int .i64 p) (fun i _ => 16 - (intOf i).toNat)
  case atStart => exact ⟨⟨HB, HD⟩, 0, by omega, rfl⟩
  case round =>
    clear HB HD
    obtain ⟨⟨HB, HD⟩, p, hp, rfl⟩ := hrel
    by_cases hlt : p < 16
    · go_wp2_with fail
      obtain ⟨wo, ewo⟩ : ∃ x, x = wr := ⟨_, rfl⟩
      rw [← ewo] at HB HD ⊢
      clear ewo
      go_loopw [6] (fun i wr => (Hid (Below w.heap.size w wr) ∧ Hid (Dat wr)) ∧ ∃ q : Nat, q ≤ p ∧ i = .int .i64 q) (fun i _ => p - (intOf i).toNat)
      case atStart => exact ⟨⟨HB, HD⟩, 0, by omega, rfl⟩
      case round =>
        clear HB HD
        obtain ⟨⟨HB, HD⟩, q, hq, rfl⟩ := hrel
        by_cases hlq : q < p
        · have fr := flip_run x p lx hlt
          have ly : x ^^^ oneN p < 65536 := xor_lt lx (sh_lt hlt)
          have dy : ∀ q, q < p → decN (x ^^^ oneN p ^^^ 1 <<< q) = (0, 0, 9) := HP.out p hlt
          obtain ⟨y, hy⟩ : ∃ y, y = x ^^^ oneN p := ⟨_, rfl⟩
          rw [← hy] at fr ly dy
          have fz := flip_run y q ly (by omega)
          have lz : y ^^^ oneN q < 65536 := xor_lt ly (sh_lt (by omega))
          have dz : decN (y ^^^ oneN q) = (0, 0, 9) := dy q hlq
          obtain ⟨z, hz⟩ : ∃ z, z = y ^^^ oneN q := ⟨_, rfl⟩
          rw [← hz] at fz lz dz
          have DZ := Lib.hid dz
          clear hy dy hz dz
          go_upto_region 11 with fail
          go_quiet ((go_at_call 16; exact quiet_mine (decode_nat lz DZ.out _ (HD.out.drewN _))))
          clear fr fz
          go_wp2_with fail
          go_roundw
          case rel => exact ⟨⟨bdn HB, HD.out.drewN nq⟩, q + 1, by omega, by go_num⟩
          case measure => simp [intOf]; omega
        · go_wp2_with fail
          go_roundw
          case rel => exact ⟨⟨HB, HD⟩, p + 1, by omega, by go_num⟩
          case measure => simp [intOf]; omega
    · go_wp2_with fail
      refine (sane_any _ HD.out).mono ?_
      rintro e w' ⟨rfl, j, rfl⟩
      go_wp2_with fail
      go_ret
      exact ⟨rfl, bdn HB.out⟩

theorem distance_walk (v u : Int) (w : World) (D : Dat w) :
    Calls Tryd.prog 7 #[.int .i64 v, .int .i64 u] w fun e w' => e = .returned (.bool true) ∧ Below w.heap.size w w' := by
  obtain ⟨n, ln, hn⟩ := val_nat v
  obtain ⟨k, lk, hk⟩ := val_nat u
  obtain ⟨x, hx⟩ : ∃ x, x = encN n := ⟨_, rfl⟩
  have lx : x < 65536 := by rw [hx]; exact (enc_ok ln).1
  obtain ⟨y, hy⟩ : ∃ x, x = encN k := ⟨_, rfl⟩
  have ly : y < 65536 := by rw [hy]; exact (enc_ok lk).1
  have hd := disR_nat lx ly
  obtain ⟨d, ed⟩ : ∃ d, d = pop (x ^^^ y) 16 := ⟨_, rfl⟩
  rw [← ed] at hd
  have hd' : (n = k ∧ d = 0) ∨ (n ≠ k ∧ 4 ≤ d) := by
    rcases Nat.decEq n k with g | g
    · exact Or.inr ⟨g, by rw [ed, hx, hy]; exact far ln lk g⟩
    · subst g; exact Or.inl ⟨rfl, by rw [ed, hx, hy]; exact near n⟩
  have HX := Lib.hid hx
  have HY := Lib.hid hy
  have HN := Lib.hid hn
  have HK := Lib.hid hk
  have HD := Lib.hid hd
  clear hx hn hy hk hd ed
  have ht := tmod_bd v 2048 (by decide)
  have ht2 := tmod_bd u 2048 (by decide)
  go_enter Tryd.func7, Tryd.ntmps7
  go_wp2_with fail
  rw [HN.out.1, HN.out.2, HK.out.1]
  clear ht ht2
  refine (encode_nat ln HX.out _ D).mono ?_
  rintro e w' ⟨rfl, m, rfl⟩
  have D1 := D.drewN m
  have B1 := below_dn w m
  obtain ⟨w1, e1⟩ : ∃ w1, w1 = w.drewN m := ⟨_, rfl⟩
  rw [← e1] at D1 B1 ⊢
  have HB := Lib.hid B1
  clear e1 B1 D
  go_wp2_with fail
  refine (encode_nat lk HY.out _ D1).mono ?_
  rintro e w' ⟨rfl, m2, rfl⟩
  have D2 := D1.drewN m2
  clear D1
  go_wp2_with fail
  refine (distance_any x y _).mono ?_
  rintro e w' ⟨rfl, rfl⟩
  rw [HD.out]
  rcases hd' with ⟨rfl, rfl⟩ | ⟨h1, h2⟩
  · go_wp2_with fail
    refine (sane_any _ D2).mono ?_
    rintro e w' ⟨rfl, j, rfl⟩
    go_wp2_with fail
    go_ret
    exact ⟨rfl, bdn HB.out⟩
  · have h3 : ((n : Int) == (k : Int)) = false := by rw [beq_eq_false_iff_ne]; omega
    have h4 : ((n : Int) != (k : Int)) = true := by rw [bne_iff_ne]; omega
    clear h1
    go_wp2_with fail
    refine (sane_any _ D2).mono ?_
    rintro e w' ⟨rfl, j, rfl⟩
    go_wp2_with fail
    go_ret
    exact ⟨rfl, bdn HB.out⟩
end Go.Proofs.YtlfgmbdidjfcjaaDoor
