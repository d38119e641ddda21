/-
  Stage 11: the greatest of a list, and where it stands.
-/
import Derived.Test.YtpimdcljecipeaaJRel
set_option linter.unusedSimpArgs false
set_option linter.unusedVariables false
namespace Go.Proofs.Ytpimdcljecipeaa
open Go.RowKit Go.Lib

/-- Indexes as numbers. -/
def toZ (os : List Nat) : List Int := os.map fun (x : Nat) => (x : Int)
theorem toZ_len (os : List Nat) : (toZ os).length = os.length := by unfold toZ; simp
theorem toZ_at (os : List Nat) {k : Nat} (hk : k < os.length) : (toZ os).getD k 0 = ((os.getD k 0 : Nat) : Int) := by
  unfold toZ; simp [List.getD_eq_getElem?_getD, hk]
theorem toZ_app (a b : List Nat) : toZ (a ++ b) = toZ a ++ toZ b := by unfold toZ; simp
theorem toZ_inj {a b : List Nat} (h : toZ a = toZ b) : a = b := by
  unfold toZ at h
  exact (List.map_inj_right (f := fun (x : Nat) => (x : Int)) (fun x y e => Int.ofNat_inj.1 e)).1 h
theorem getD_memN {os : List Nat} {i : Nat} (h : i < os.length) : os.getD i 0 ∈ os := by
  rw [List.getD_eq_getElem?_getD, List.getElem?_eq_getElem h]; exact List.getElem_mem h
theorem getD_set_same {zs : List Int} {y : Nat} (h : y < zs.length) (M : Int) : (zs.set y M).getD y 0 = M := by
  rw [List.getD_eq_getElem?_getD, List.getElem?_set, if_pos rfl, if_pos h]; rfl
theorem getD_set_other {zs : List Int} {y x : Nat} (h : y ≠ x) (M : Int) : (zs.set y M).getD x 0 = zs.getD x 0 := by
  rw [List.getD_eq_getElem?_getD, List.getElem?_set, if_neg h, ← List.getD_eq_getElem?_getD]
/-- The greatest of the first k. -/
structure TopV (v : List Int) (k : Nat) (M : Int) : Prop where
  le : ∀ x, x < k → v.getD x 0 ≤ M
  hit : ∃ x, x < k ∧ v.getD x 0 = M
set_option maxHeartbeats 800000 in
theorem max_any (v : List Int) (A : Option Addr) (c : Nat) (w : World) (h : Row .i64 w w.heap.size A v) (hm : v.length ≤ maxLen) (h1 : 0 < v.length) :
    Calls Try.prog 35 #[.slice A v.length c] w fun e w' => ∃ M, e = .returned (.int .i64 M) ∧ TopV v v.length M ∧ w' = w := by
  have hl : v.length ≤ 9223372036854775807 := hm
  have H := Lib.hid h
  obtain ⟨ad, rfl, _, c0⟩ := h 0 h1
  have HZ : Hid (TopV v 1 (v.getD 0 0)) := Lib.hid ⟨fun x hx => by
    obtain rfl : x = 0 := by omega
    exact Int.le_refl _, 0, by omega, rfl⟩
  obtain ⟨L, hL⟩ : ∃ n, n = v.length := ⟨_, rfl⟩
  have HL := Lib.hid hL
  rw [← hL] at hl h1 ⊢
  have hL1 : ¬ (L : Int) < 1 := by omega
  have hL0 : (0 : Int) < (L : Int) := by omega
  generalize v.getD 0 0 = z at *
  clear h hL hm
  have e0 : ad.add 0 = ad := by unfold Addr.add; rw [if_pos rfl]
  have c0' : w.cell? ad = some (.int .i64 z) := by rw [← e0]; exact c0
  clear e0
  go_enter Try.func35, Try.ntmps35
  go_wp2_with fail
  clear c0 c0'
  go_loopw [3, 4] (fun mv iv wr => ∃ (k : Nat) (M : Int), k < L + 1 ∧ iv = .int .i64 (k : Int) ∧ 1 ≤ k ∧ mv = .int .i64 M ∧ Hid (TopV v k M) ∧ Hid (wr = w)) (fun _ iv _ => L - (intOf iv).toNat)
  case atStart => exact ⟨1, z, by omega, rfl, by omega, rfl, HZ, Lib.hid rfl⟩
  case round =>
    clear HZ
    obtain ⟨k, M, hk, rfl, hk1, rfl, T, HW⟩ := hrel
    obtain rfl := HW.out
    by_cases hlt : k < L
    · obtain ⟨ad', e', _, ck⟩ := H.out k (by rw [← HL.out]; exact hlt)
      obtain rfl : ad = ad' := by injection e'
      obtain ⟨zk, hz⟩ : ∃ z, z = v.getD k 0 := ⟨_, rfl⟩
      rw [← hz] at ck
      obtain ⟨M2, hM2⟩ : ∃ t, t = max2 M zk := ⟨_, rfl⟩
      have hmx : ∀ w ts t, (Builtin.max_ ts t #[.int .i64 M, .int .i64 zk]).run Try.prog w = .ok (.int .i64 M2) w := fun w ts t => by rw [run_max2, hM2]
      have HT := Lib.hid (show TopV v (k + 1) M2 from by
        have hle := T.out.le
        have hhit := T.out.hit
        unfold max2 at hM2
        split at hM2
        · subst hM2
          refine ⟨fun x hx => ?_, k, by omega, hz.symm⟩
          rcases Nat.lt_or_ge x k with g | g
          · have := hle x g; omega
          · have : x = k := by omega
            subst this; omega
        · subst hM2
          obtain ⟨x0, h1, h2⟩ := hhit
          refine ⟨fun x hx => ?_, x0, by omega, h2⟩
          rcases Nat.lt_or_ge x k with g | g
          · exact hle x g
          · have : x = k := by omega
            subst this; omega)
      clear hz hM2 e' T
      go_wp2_with fail
      go_roundw
      case rel => exact ⟨k + 1, M2, by omega, by go_num, by omega, rfl, HT, Lib.hid trivial⟩
      case measure => simp [intOf]; omega
    · obtain rfl : k = L := by omega
      have HLL := Lib.hid HL.out
      go_wp2_with fail
      go_ret
      exact ⟨M, rfl, T.out, rfl⟩
set_option maxHeartbeats 800000 in
theorem indexOf_any (v : List Int) (A : Option Addr) (c : Nat) (M : Int) (w : World) (h : Row .i64 w w.heap.size A v) (hm : v.length ≤ maxLen) (ht : TopV v v.length M) :
    Calls Try.prog 34 #[.slice A v.length c, .int .i64 M] w fun e w' => ∃ y : Nat, e = .returned (.int .i64 (y : Int)) ∧ IsTop v y ∧ v.getD y 0 = M ∧ w' = w := by
  have hl : v.length ≤ 9223372036854775807 := hm
  have H := Lib.hid h
  have HT := Lib.hid ht
  obtain ⟨L, hL⟩ : ∃ n, n = v.length := ⟨_, rfl⟩
  have HL := Lib.hid hL
  rw [← hL] at hl ⊢
  clear h hL hm ht
  go_enter Try.func34, Try.ntmps34
  go_wp2_with fail
  go_loopw [8] (fun iv wr => ∃ k : Nat, k ≤ L ∧ iv = .int .i64 (k : Int) ∧ Hid (∀ x, x < k → v.getD x 0 ≠ M) ∧ Hid (wr = w)) (fun iv _ => L - (intOf iv).toNat)
  case atStart => exact ⟨0, by omega, rfl, Lib.hid (fun x hx => absurd hx (Nat.not_lt_zero _)), Lib.hid rfl⟩
  case round =>
    obtain ⟨k, hk, rfl, F, HW⟩ := hrel
    obtain rfl := HW.out
    by_cases hlt : k < L
    · obtain ⟨ad, rfl, _, ck⟩ := H.out k (by rw [← HL.out]; exact hlt)
      obtain ⟨zk, hz⟩ : ∃ z, z = v.getD k 0 := ⟨_, rfl⟩
      have HZ := Lib.hid hz
      rw [← hz] at ck
      clear hz
      by_cases e : M = zk
      · subst e
        have HTop := Lib.hid (show IsTop v k from ⟨by rw [← HL.out]; exact hlt, fun x hx => by rw [← HZ.out]; exact HT.out.le x hx, fun x hx => by
          have h1 := F.out x hx
          have h2 := HT.out.le x (by rw [← HL.out]; omega)
          rw [← HZ.out]; omega⟩)
        have hb : (M == M) = true := by simp
        clear F
        go_wp2_with fail
        go_ret
        exact ⟨k, rfl, HTop.out, HZ.out.symm, rfl⟩
      · have hb : (M == zk) = false := by simpa using e
        have HE := Lib.hid e
        clear e
        go_wp2_with fail
        go_roundw
        case rel => exact ⟨k + 1, by omega, by go_num, Lib.hid (fun x hx => by
          rcases Nat.lt_or_ge x k with g | g
          · exact F.out x g
          · have : x = k := by omega
            subst this; rw [← HZ.out]; exact fun q => HE.out q.symm), Lib.hid trivial⟩
        case measure => simp [intOf]; omega
    · obtain rfl : k = L := by omega
      exfalso
      obtain ⟨x, h1, h2⟩ := HT.out.hit
      exact F.out x (by rw [HL.out]; exact h1) h2
theorem Row.nonempty {w : World} {B : Nat} {A : Option Addr} {zs : List Int} {k : IntKind} (h : Row k w B A zs) (hn : 0 < zs.length) : ∃ ad, A = some ad := by
  obtain ⟨ad, e, _⟩ := h 0 hn; exact ⟨ad, e⟩
end Go.Proofs.Ytpimdcljecipeaa
