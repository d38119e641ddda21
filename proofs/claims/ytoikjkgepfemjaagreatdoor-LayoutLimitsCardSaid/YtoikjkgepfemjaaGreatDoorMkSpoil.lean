/-
  The maker's Spoil: some string that is at most one byte longer.
-/
import Derived.Test.YtoikjkgepfemjaaGreatDoorMkNumber
set_option linter.unusedSimpArgs false
set_option linter.unusedVariables false
namespace Go.Proofs.YtoikjkgepfemjaaGreatDoor
open Go.RowKit

theorem size_one (v : Int) : (strOfNums [v]).size = 1 := by rw [strOfNums_size]; rfl

set_option maxHeartbeats 1600000 in
theorem mspoil_any (m N : Nat) (s : ByteArray) (w : World) (h : IsMk w m N) (hN : N ≤ 10000000000) (hs : s.size ≤ 1000000) :
    Calls Tryz.prog 23 #[.pointer (some ⟨m, 0, none⟩), .string s] w (StrPost m (N + 3) (fun t => t.size ≤ s.size + 1) w) := by
  have hm := h.lt
  have hob := one_byte
  by_cases h0 : s.size = 0
  · have he : s = ⟨#[]⟩ := by
      cases s with | mk d => simp [ByteArray.size] at h0; simp [h0]
    subst he
    go_enter Tryz.func23, Tryz.ntmps23
    go_wp2_with fail
    refine (next_any m N _ _ h (by omega) (by omega) (by omega)).mono ?_
    rintro e w1 ⟨v, rfl, v1, v2, k1, k2⟩
    go_wp2_with fail
    go_ret
    exact ⟨_, rfl, by show (strOfNums [v]).size ≤ _; rw [size_one]; simp, (k1.alloc _).more (by omega), k2.alloc _⟩
  · have he : s.toList.isEmpty = false := by
      rw [ByteArray.toList_eq]
      have hq0 : s.data.toList.length = s.size := rfl
      have : s.data.toList.length ≠ 0 := by omega
      cases hq : s.data.toList with
      | nil => rw [hq] at this; exact absurd rfl this
      | cons a l => rfl
    have h1 : 1 ≤ s.size := by omega
    have hone : ∀ v, (strOfNums [v]).size = 1 := size_one
    clear h0
    go_enter Tryz.func23, Tryz.ntmps23
    go_wp2_with fail
    refine (next_any m N _ _ h (by omega) (by omega) (by omega)).mono ?_
    rintro e w1 ⟨v, rfl, v1, v2, k1, k2⟩
    obtain ⟨i, rfl⟩ := Int.eq_ofNat_of_zero_le v1
    have hi : i < s.size := by omega
    have b1 : (i : Int) ≤ (s.size : Int) := by omega
    have b2 : (i : Int) + 1 ≤ (s.size : Int) := by omega
    have b3 : 0 ≤ (i : Int) + 1 := by omega
    have b4 : (0 : Int) ≤ (i : Int) := by omega
    clear v1 v2
    go_wp2_with fail
    refine (next_any m (N + 1) _ _ k1 (by omega) (by omega) (by omega)).mono ?_
    rintro e w2 ⟨t, rfl, t1, t2, k3, k4⟩
    have V2 := k2.trans k4
    clear k1 k2 k4
    have hN2 : N + 1 + 1 ≤ 1000000000000 := by omega
    have W1 : IntKind.i64.wrap ((i : Int) + 1) = (i : Int) + 1 := IntWalk.i64_in _ (by omega)
    have W2 : ((i : Int) + 1).toNat = i + 1 := by omega
    have t3 : t = 0 ∨ t = 1 ∨ t = 2 ∨ t = 3 := by omega
    rcases t3 with rfl | rfl | rfl | rfl
    · go_wp2_with fail
      go_quiet (fail)
      go_wp2_with fail
      go_ret
      exact ⟨_, rfl, by show (s.extract 0 i ++ s.extract (i + 1) s.size).size ≤ _; simp [ByteArray.size_append, ByteArray.size_extract]; omega, (k3.drewN).more (by omega), V2.drewN⟩
    · go_wp2_with fail
      go_region_with (first | (go_at_call 24; refine (next_any m (N + 1 + 1) _ _ k3.drew hN2 (by decide) (by decide)).mono ?_; rintro e w3 ⟨u, rfl, u1, u2, k5, k6⟩))
      all_goals
        go_wp2_with fail
        go_ret
        exact ⟨_, rfl, by show (s.extract 0 i ++ strOfNums [_] ++ s.extract i s.size).size ≤ _; simp [ByteArray.size_append, ByteArray.size_extract, size_one]; omega, k5.alloc _, (V2.drewN (n := 1)).trans (k6.alloc _)⟩
    · go_wp2_with fail
      go_region_with (first | (go_at_call 24; refine (next_any m (N + 1 + 1) _ _ k3.drew hN2 (by decide) (by decide)).mono ?_; rintro e w3 ⟨u, rfl, u1, u2, k5, k6⟩))
      all_goals
        go_wp2_with fail
        go_ret
        exact ⟨_, rfl, by show (s.extract 0 i ++ strOfNums [_] ++ s.extract (i + 1) s.size).size ≤ _; simp [ByteArray.size_append, ByteArray.size_extract, size_one]; omega, k5.alloc _, (V2.drewN (n := 1)).trans (k6.alloc _)⟩
    · go_wp2_with fail
      go_region_with (first | (go_at_call 24; refine (next_any m (N + 1 + 1) _ _ k3.drew hN2 (by decide) (by decide)).mono ?_; rintro e w3 ⟨u, rfl, u1, u2, k5, k6⟩))
      all_goals
        go_wp2_with fail
        go_ret
        exact ⟨_, rfl, by show (s.extract 0 i ++ strOfNums [_] ++ s.extract (i + 1) s.size).size ≤ _; simp [ByteArray.size_append, ByteArray.size_extract, size_one]; omega, k5.alloc _, (V2.drewN (n := 1)).trans (k6.alloc _)⟩

end Go.Proofs.YtoikjkgepfemjaaGreatDoor
