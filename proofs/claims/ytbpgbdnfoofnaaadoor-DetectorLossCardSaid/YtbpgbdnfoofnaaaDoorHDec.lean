/-
  Stage 3: the program's Encode for every number, Decode and Distance.
-/
import Derived.Test.YtbpgbdnfoofnaaaDoorHEnc
set_option linter.unusedSimpArgs false
set_option linter.unusedVariables false
namespace Go.Proofs.YtbpgbdnfoofnaaaDoor
open Go.RowKit

theorem ret2r {t : Int × Int} {a b : Int} (h : t = (a, b)) : Ending.returned (.tuple #[.int .i64 a, .int .i64 b]) = .returned (R2 t) := by rw [h]
/-- What Encode answers. -/
def encR (v : Int) : Int × Int := if 0 ≤ v ∧ v ≤ 2047 then ((encN v.toNat : Int), 0) else (0, 2)
theorem encR_nat {v : Nat} (h : v < 2048) : encR v = ((encN v : Int), 0) := by
  unfold encR; rw [if_pos (by omega)]; rfl
theorem encR_no {v : Int} (h : ¬ (0 ≤ v ∧ v ≤ 2047)) : encR v = (0, 2) := by unfold encR; rw [if_neg h]
theorem encode_any (v : Int) (w : World) (D : Dat w) :
    Calls Tryd.prog 37 #[.int .i64 v] w fun e w' => e = .returned (R2 (encR v)) ∧ ∃ n, w' = w.drewN n := by
  by_cases h : 0 ≤ v ∧ v ≤ 2047
  · obtain ⟨n, rfl⟩ : ∃ n : Nat, v = n := ⟨v.toNat, by omega⟩
    rw [encR_nat (by omega)]
    exact encode_ok' n _ rfl w (by omega) D
  · rw [encR_no h]
    by_cases h0 : v < 0
    all_goals
      clear D
      first | (have h2 : 2047 < v := by omega) | skip
      clear h
      go_enter Tryd.func37, Tryd.ntmps37
      go_wp2_with fail
      go_ret2
      exact ⟨rfl, 0, rfl⟩

abbrev R3 (t : Int × Int × Int) : Value := .tuple #[.int .i64 t.1, .int .i64 t.2.1, .int .i64 t.2.2]
/-- What Decode answers. -/
def decR (w : Int) : Int × Int × Int := if 0 ≤ w ∧ w ≤ 65535 then decN w.toNat else (0, 0, 2)
theorem decR_nat {w : Nat} (h : w < 65536) : decR w = decN w := by
  unfold decR; rw [if_pos (by omega)]; rfl
theorem decR_no {w : Int} (h : ¬ (0 ≤ w ∧ w ≤ 65535)) : decR w = (0, 0, 2) := by unfold decR; rw [if_neg h]
/-- Its three cases, with names for the parts. -/
theorem decN_one {v s g : Nat} (hp : pop v 16 % 2 = 1) (hs : s = syn v 16) (hg : g = gat (v ^^^ 1 <<< s) 11) : decN v = ((g : Int), (s : Int), 0) := by
  subst hs; subst hg; unfold decN; rw [if_pos hp]
theorem decN_bad {v : Nat} (hp : pop v 16 % 2 = 0) (hs : syn v 16 ≠ 0) : decN v = (0, 0, 9) := by unfold decN; rw [if_neg (by omega), if_neg hs]
theorem decN_ok {v g : Nat} (hp : pop v 16 % 2 = 0) (hs : syn v 16 = 0) (hg : g = gat v 11) : decN v = ((g : Int), -1, 0) := by subst hg; unfold decN; rw [if_neg (by omega), if_pos hs]
theorem one_shl_run (s : Nat) (hs : s < 16) : wrap64 (2 ^ s) = ((1 <<< s : Nat) : Int) := by
  have : ∀ s, s < 16 → wrap64 (2 ^ s) = ((1 <<< s : Nat) : Int) := by decide +kernel
  exact this s hs
def oneN (s : Nat) : Nat := 1 <<< s
theorem flip_run (v s : Nat) (hv : v < 65536) (hs : s < 16) : bits .xor .i64 (v : Int) (wrap64 (2 ^ s)) = ((v ^^^ oneN s : Nat) : Int) := by
  rw [one_shl_run s hs]
  exact xorI v (1 <<< s) (by omega) (by have := sh_lt hs; omega)

set_option maxHeartbeats 800000 in
theorem decode_ok (v : Nat) (w : World) (hv : v < 65536) (D : Dat w) :
    Calls Tryd.prog 38 #[.int .i64 v] w fun e w' => e = .returned (R3 (decN v)) ∧ w = w' := by
  obtain ⟨s, hs, l2, cs⟩ := syndrome_ex v (by omega)
  obtain ⟨p, hp, l4, cp⟩ := parity_ex v hv
  have lx : v ^^^ oneN s < 65536 := xor_lt hv (sh_lt l2)
  obtain ⟨g, hg, l5, cg⟩ := gather_ex v w (by omega) D
  have fr := flip_run v s hv l2
  obtain ⟨x, hx⟩ : ∃ x, x = v ^^^ oneN s := ⟨_, rfl⟩
  rw [← hx] at lx fr
  obtain ⟨g', hg', l6, cg'⟩ := gather_ex x w (by omega) D
  have K1 := Lib.hid (fun h : p = 1 => decN_one (v := v) (s := s) (g := g') (by omega) hs (by rw [hg', hx]; rfl))
  have K2 := Lib.hid (fun (h : p = 0) (h' : s ≠ 0) => decN_bad (v := v) (by omega) (by rw [← hs]; exact h'))
  have K3 := Lib.hid (fun (h : p = 0) (h' : s = 0) => decN_ok (v := v) (g := g) (by omega) (by rw [← hs]; exact h') hg)
  obtain ⟨t, ht⟩ : ∃ t, t = decN v := ⟨_, rfl⟩
  rw [← ht] at K1 K2 K3 ⊢
  clear hs hp hg hg' hx D ht
  have hw : decide (0 ≤ (v : Int) ∧ (v : Int) ≤ 65535) = true := decide_eq_true (by omega)
  have FR := Lib.hid fr
  clear fr
  go_enter Tryd.func38, Tryd.ntmps38
  go_wp2_with fail
  refine (isWord_any v _).mono ?_
  rintro e w' ⟨rfl, rfl⟩
  rw [hw]
  clear hw
  go_wp2_with fail
  refine (cs _).mono ?_
  rintro e w' ⟨rfl, rfl⟩
  clear cs
  go_wp2_with fail
  refine (cp _).mono ?_
  rintro e w' ⟨rfl, rfl⟩
  clear cp
  rcases (show p = 0 ∨ p = 1 by omega) with rfl | rfl
  · by_cases h0 : s = 0
    · subst h0
      have k := Lib.hid (K3.out rfl rfl)
      clear K1 K2 K3 cg' FR
      go_wp2_with fail
      refine cg.mono ?_
      rintro e w' ⟨rfl, rfl⟩
      clear cg
      go_wp2_with fail
      refine bodyPost_ret (v := .tuple #[.int .i64 g, .int .i64 (-1), .int .i64 0]) (by simp [results, Tryd.results38, go_sem]) rfl ⟨by rw [k.out], rfl⟩
    · have k := Lib.hid (K2.out rfl h0)
      have hn : ((s : Int) != 0) = true := by rw [bne_iff_ne]; omega
      clear K1 K2 K3 cg' FR cg h0
      go_wp2_with fail
      refine bodyPost_ret (v := .tuple #[.int .i64 0, .int .i64 0, .int .i64 9]) (by simp [results, Tryd.results38, go_sem]) rfl ⟨by rw [k.out], rfl⟩
  · have k := Lib.hid (K1.out rfl)
    clear K1 K2 K3 cg
    have fr := FR.out
    go_wp2_with fail
    refine cg'.mono ?_
    rintro e w' ⟨rfl, rfl⟩
    clear cg' fr FR
    go_wp2_with fail
    refine bodyPost_ret (v := .tuple #[.int .i64 g', .int .i64 s, .int .i64 0]) (by simp [results, Tryd.results38, go_sem]) rfl ⟨by rw [k.out], rfl⟩
theorem decode_any (v : Int) (w : World) (D : Dat w) :
    Calls Tryd.prog 38 #[.int .i64 v] w fun e w' => e = .returned (R3 (decR v)) ∧ w = w' := by
  by_cases h : 0 ≤ v ∧ v ≤ 65535
  · obtain ⟨n, rfl⟩ : ∃ n : Nat, v = n := ⟨v.toNat, by omega⟩
    rw [decR_nat (by omega)]
    exact decode_ok n w (by omega) D
  · rw [decR_no h]
    have hw : decide (0 ≤ (v : Int) ∧ (v : Int) ≤ 65535) = false := decide_eq_false h
    clear D h
    go_enter Tryd.func38, Tryd.ntmps38
    go_wp2_with fail
    refine (isWord_any v _).mono ?_
    rintro e w' ⟨rfl, rfl⟩
    rw [hw]
    clear hw
    go_wp2_with fail
    exact bodyPost_ret (v := .tuple #[.int .i64 0, .int .i64 0, .int .i64 2]) (by simp [results, Tryd.results38, go_sem]) rfl ⟨rfl, rfl⟩

/-- What Distance answers. -/
def disR (a b : Int) : Int × Int := if (0 ≤ a ∧ a ≤ 65535) ∧ (0 ≤ b ∧ b ≤ 65535) then ((pop (a.toNat ^^^ b.toNat) 16 : Int), 0) else (0, 2)
theorem disR_nat {a b : Nat} (ha : a < 65536) (hb : b < 65536) : disR a b = ((pop (a ^^^ b) 16 : Int), 0) := by
  unfold disR; rw [if_pos (by omega)]; rfl
theorem disR_no {a b : Int} (h : ¬ ((0 ≤ a ∧ a ≤ 65535) ∧ (0 ≤ b ∧ b ≤ 65535))) : disR a b = (0, 2) := by unfold disR; rw [if_neg h]
end Go.Proofs.YtbpgbdnfoofnaaaDoor
