/-
  Stage 9: the reference's Name and sound.
-/
import Derived.Test.YtgohocbkkhnmnaaGreatDoorLValid
set_option linter.unusedSimpArgs false
set_option linter.unusedVariables false
namespace Go.Proofs.YtgohocbkkhnmnaaGreatDoor
open Go.RowKit Go.Lib

theorem nm_false {s : ByteArray} {k : Nat} (h : (s.data.toList.take k).all nmc = false) : nameS s = false := by
  unfold nameS; rw [nm_take s k h, Bool.and_false]
set_option maxHeartbeats 800000 in
theorem rname_any (s : ByteArray) (w : World) (hz : s.size ≤ 4611686018427387904) :
    Calls Tryz.prog 52 #[.string s] w fun e w' => e = .returned (.bool (nameS s)) ∧ w = w' := by
  go_enter Tryz.func52, Tryz.ntmps52
  go_wp2_with fail
  go_loop [3] (fun i => ∃ k : Nat, k ≤ s.size ∧ i = .int .i64 k ∧ (s.data.toList.take k).all nmc = true) (fun i => s.size - (intOf i).toNat)
  case atStart => exact ⟨0, by omega, rfl, by simp⟩
  case round =>
    obtain ⟨k, hk, rfl, hall⟩ := hrel
    have HA := Lib.hid hall
    clear hall
    by_cases hlt : k < s.size
    · have HS := Lib.hid (nm_snoc s k hlt)
      have bad : nmc s[k] = false → nameS s = false := fun h => nm_false (k := k + 1) (by rw [HS.out, h, Bool.and_false])
      have HB := Lib.hid bad
      clear bad
      have good : nmc s[k] = true → (s.data.toList.take (k + 1)).all nmc = true := fun h => by rw [HS.out, HA.out, h]; rfl
      have HG := Lib.hid good
      clear good
      by_cases c1 : 97 ≤ (s[k].toNat : Int)
      · by_cases c4 : (s[k].toNat : Int) ≤ 122
        · have HD := Lib.hid (show nmc s[k] = true from decide_eq_true (by omega))
          go_wp2
          go_round
          case rel => exact ⟨k + 1, by omega, by go_num, HG.out HD.out⟩
          case measure => simp [intOf]; omega
        · have c2 : 48 ≤ (s[k].toNat : Int) := by omega
          have c3 : ¬ (s[k].toNat : Int) ≤ 57 := by omega
          have HD := Lib.hid (show nmc s[k] = false from decide_eq_false (by omega))
          go_wp2
          go_ret
          exact ⟨ret_bool (HB.out HD.out).symm, rfl⟩
      · by_cases c2 : 48 ≤ (s[k].toNat : Int)
        · by_cases c3 : (s[k].toNat : Int) ≤ 57
          · have HD := Lib.hid (show nmc s[k] = true from decide_eq_true (by omega))
            go_wp2
            go_round
            case rel => exact ⟨k + 1, by omega, by go_num, HG.out HD.out⟩
            case measure => simp [intOf]; omega
          · have HD := Lib.hid (show nmc s[k] = false from decide_eq_false (by omega))
            go_wp2
            go_ret
            exact ⟨ret_bool (HB.out HD.out).symm, rfl⟩
        · have HD := Lib.hid (show nmc s[k] = false from decide_eq_false (by omega))
          go_wp2
          go_ret
          exact ⟨ret_bool (HB.out HD.out).symm, rfl⟩
    · have HE := Lib.hid (show s.data.toList.all nmc = true by
        have e : k = s.size := by omega
        have g := HA.out; rw [e, List.take_of_length_le (by simp)] at g; exact g)
      by_cases h1 : 1 ≤ s.size
      · by_cases h2 : s.size ≤ 12
        · have HF := Lib.hid (show nameS s = true by unfold nameS; rw [decide_eq_true ⟨h1, h2⟩, HE.out]; rfl)
          go_wp2
          go_ret
          exact ⟨ret_bool (by rw [HF.out]; exact decide_eq_true (by omega)), rfl⟩
        · have HF := Lib.hid (show nameS s = false by unfold nameS; rw [decide_eq_false (fun g => h2 g.2)]; rfl)
          go_wp2
          go_ret
          exact ⟨ret_bool (by rw [HF.out]; exact decide_eq_false (by omega)), rfl⟩
      · have HF := Lib.hid (show nameS s = false by unfold nameS; rw [decide_eq_false (fun g => h1 g.1)]; rfl)
        go_wp2
        go_ret
        exact ⟨ret_bool HF.out.symm, rfl⟩

def SoundQ (k pa si le gr cu po : Int) : Prop :=
  (k = 0 ∧ pa = -1 ∧ si = 0 ∧ le = 0 ∧ gr = 0 ∧ cu = 0 ∧ po = 0) ∨
  (1 ≤ k ∧ k ≤ 4 ∧ 1 ≤ le ∧ le ≤ 1000000 ∧ -10000 ≤ gr ∧ gr ≤ 10000 ∧ 0 ≤ cu ∧ cu ≤ 5000 ∧ 0 ≤ si ∧ si ≤ 2 ∧ ((k = 2 ∧ 1 ≤ po ∧ po ≤ 1000000000) ∨ (k ≠ 2 ∧ po = 0)))
theorem soundQ {k pa si le gr cu po : Int} {nm : ByteArray} (h : nameS nm = true) : soundE ⟨k, nm, pa, si, le, gr, cu, po⟩ = true ↔ SoundQ k pa si le gr cu po := by
  have hr : rngE ⟨k, nm, pa, si, le, gr, cu, po⟩ ↔ (1 ≤ le ∧ le ≤ 1000000 ∧ -10000 ≤ gr ∧ gr ≤ 10000 ∧ 0 ≤ cu ∧ cu ≤ 5000 ∧ 0 ≤ si ∧ si ≤ 2) := Iff.rfl
  unfold soundE behE SoundQ
  simp only [h, Bool.true_and]
  by_cases h0 : k = 0
  · rw [if_pos h0, decide_eq_true_eq]; omega
  · rw [if_neg h0]
    by_cases h2 : k = 2
    · rw [if_pos h2, Bool.and_eq_true, decide_eq_true_eq, decide_eq_true_eq, hr]; omega
    · rw [if_neg h2]
      by_cases h1 : k = 1 ∨ k = 3 ∨ k = 4
      · rw [if_pos h1, Bool.and_eq_true, decide_eq_true_eq, decide_eq_true_eq, hr]; omega
      · rw [if_neg h1]
        constructor
        · intro g; cases g
        · omega
theorem soundQ_ret {k pa si le gr cu po : Int} {nm : ByteArray} {b : Bool} (h : nameS nm = true) (hb : b = true ↔ SoundQ k pa si le gr cu po) : Ending.returned (Value.bool b) = .returned (.bool (soundE ⟨k, nm, pa, si, le, gr, cu, po⟩)) := by
  have := hb.trans (soundQ (nm := nm) h).symm
  congr 2
  cases b with
  | true => exact (this.1 rfl).symm
  | false =>
    cases hs : soundE ⟨k, nm, pa, si, le, gr, cu, po⟩ with
    | false => rfl
    | true => rw [hs] at this; exact this.2 rfl
theorem sound_noname {x : El} (h : nameS x.name = false) : soundE x = false := by
  cases hs : soundE x with
  | false => rfl
  | true => rw [soundE_name hs] at h; cases h
set_option maxRecDepth 100000 in
set_option maxHeartbeats 3200000 in
theorem rsound_any (x : El) (w : World) (hs : x.name.size ≤ 4611686018427387904) :
    Calls Tryz.prog 38 #[aggE x] w fun e w' => e = .returned (.bool (soundE x)) ∧ Below w.heap.size w w' := by
  obtain ⟨k, nm, pa, si, le, gr, cu, po⟩ := x
  have HX := Lib.hid (newE w ⟨k, nm, pa, si, le, gr, cu, po⟩ 35 w.heap.size rfl)
  have BW := Lib.hid (show Below w.heap.size w (w.alloc (.cells #[.int .i64 k, .string nm, .int .i64 pa, .int .i64 si, .int .i64 le, .int .i64 gr, .int .i64 cu, .int .i64 po] 35)) from (Below.refl _ _).alloc (Nat.le_refl _) _)
  have HN := Lib.hid (rname_any nm (w.alloc (.cells #[.int .i64 k, .string nm, .int .i64 pa, .int .i64 si, .int .i64 le, .int .i64 gr, .int .i64 cu, .int .i64 po] 35)) hs)
  obtain ⟨c0, c1, c2, c3, c4, c5, c6, c7, lt⟩ := EBlk.of HX.out
  simp only at c0 c1 c2 c3 c4 c5 c6 c7
  clear hs HX
  go_enter Tryz.func38, Tryz.ntmps38
  go_wp2_with fail
  generalize w.alloc (.cells #[.int .i64 k, .string nm, .int .i64 pa, .int .i64 si, .int .i64 le, .int .i64 gr, .int .i64 cu, .int .i64 po] 35) = w1 at *
  generalize hb0 : w.heap.size = b0 at *
  have HB0 := Lib.hid hb0
  clear hb0
  refine HN.out.mono ?_
  rintro e w2 ⟨rfl, rfl⟩
  cases hn : nameS nm with
  | false =>
    have HS := Lib.hid (sound_noname (x := ⟨k, nm, pa, si, le, gr, cu, po⟩) hn)
    clear c0 c1 c2 c3 c4 c5 c6 c7 hn
    go_wp2_with fail
    go_ret
    exact ⟨by rw [HS.out]; rfl, by rw [HB0.out]; exact BW.out⟩
  | true =>
    have HT := Lib.hid hn
    clear hn HN
    by_cases h0 : k = 0
    · have b0' : (k == 0) = true := beq_iff_eq.2 h0
      go_wp2_with fail
      all_goals
        go_ret
        exact ⟨soundQ_ret HT.out (by unfold SoundQ; simp only [Bool.false_eq_true, false_iff, true_iff, beq_iff_eq, decide_eq_true_eq]; omega), by rw [HB0.out]; exact BW.out⟩
    · have b0' : (k == 0) = false := beq_eq_false_iff_ne.2 h0
      by_cases h2 : k = 2
      · have b2' : (k == 2) = true := beq_iff_eq.2 h2
        go_wp2_with fail
        all_goals
          go_ret
          exact ⟨soundQ_ret HT.out (by unfold SoundQ; simp only [Bool.false_eq_true, false_iff, true_iff, beq_iff_eq, decide_eq_true_eq]; omega), by rw [HB0.out]; exact BW.out⟩
      · have b2' : (k == 2) = false := beq_eq_false_iff_ne.2 h2
        go_wp2_with fail
        all_goals
          go_ret
          exact ⟨soundQ_ret HT.out (by unfold SoundQ; simp only [Bool.false_eq_true, false_iff, true_iff, beq_iff_eq, decide_eq_true_eq]; omega), by rw [HB0.out]; exact BW.out⟩
end Go.Proofs.YtgohocbkkhnmnaaGreatDoor
