/-
  Stage 2: the program's replacements and exchanges.
-/
import Derived.Test.YtmhjdpmibfkhnaaIns
import Derived.Test.YtmhjdpmibfkhnaaMkNumber
import Derived.Deep.AppendLies
import Derived.Deep.RegionHeld3
set_option linter.unusedSimpArgs false
set_option linter.unusedVariables false
namespace Go.Proofs.Ytmhjdpmibfkhnaa
open Go.RowKit

/-- The string with digit k at place i. -/
def rep1 (s : ByteArray) (i k : Nat) : ByteArray := s.extract 0 i ++ strOfNums [48 + k] ++ s.extract (i + 1) 12
/-- The replacements at place i by the first n digits; those at the first n places. -/
def repsAt (s : ByteArray) (i n : Nat) : List ByteArray := ((List.range n).filter fun k => 48 + k != (s.data.toList.getD i 48).toNat).map (rep1 s i)
def reps (s : ByteArray) (n : Nat) : List ByteArray := (List.range n).flatMap fun i => repsAt s i 10

theorem repsAt_succ (s : ByteArray) (i n : Nat) : repsAt s i (n + 1) = repsAt s i n ++ if 48 + n != (s.data.toList.getD i 48).toNat then [rep1 s i n] else [] := by
  unfold repsAt
  rw [List.range_succ, List.filter_append, List.map_append]
  congr 1
  generalize (s.data.toList.getD i 48).toNat = c
  cases h : (48 + n != c) <;> simp [List.filter_cons, h]
theorem reps_succ (s : ByteArray) (n : Nat) : reps s (n + 1) = reps s n ++ repsAt s n 10 := by
  unfold reps
  rw [List.range_succ, List.flatMap_append]; simp
theorem repsAt_len (s : ByteArray) (i n : Nat) : (repsAt s i n).length ≤ n := by
  unfold repsAt
  rw [List.length_map]
  exact Nat.le_trans (List.length_filter_le _ _) (by simp)
theorem reps_len (s : ByteArray) (n : Nat) : (reps s n).length ≤ 10 * n := by
  induction n with
  | zero => simp [reps]
  | succ n ih => rw [reps_succ, List.length_append]; have := repsAt_len s n 10; omega

theorem Strs.drewN {w : World} {base n : Nat} {v : Value} {l : List ByteArray} (h : Strs w base v l) : Strs (w.drewN n) base v l := h
theorem Strs.alloc {w : World} {base : Nat} {v : Value} {l : List ByteArray} (h : Strs w base v l) (o : Obj) : Strs (w.alloc o) base v l := World.ownsRow.alloc h o

theorem rune_one (w : World) (v : Int) (h0 : 0 ≤ v) (h1 : v < 128) : (convert 21 9 (.int .i32 v)).run Try.prog w = .ok (.string (strOfNums [v])) w := by
  have e : Utf8.encode v = strOfNums [v] := by
    have hn : v.toNat < 128 := by omega
    unfold Utf8.encode strOfNums
    have hv : Utf8.valid v = true := by simp [Utf8.valid, h0]; omega
    rw [if_pos hv]
    simp [hn]
  have u1 := Try.underlying21
  have u2 := Try.underlying9
  unfold convert
  simp [underlying, u1, u2, Conv.intToString, e]

set_option maxHeartbeats 800000 in
theorem reps_any (s : ByteArray) (w : World) (hz : s.size = 12) (hd : s.data.toList.all dig = true) :
    Calls Try.prog 31 #[.string s] w (InsPost w.heap.size (reps s 12) w) := by
  obtain ⟨i0, hi, hz0, hz1, hz2⟩ := info_parts infoStr
  have HD := Lib.hid hd
  clear hd
  go_enter Try.func31, Try.ntmps31
  go_wp2_with fail
  go_loopw [3, 8] (fun c i wr => ∃ k : Nat, k ≤ 12 ∧ i = .int .i64 k ∧ Strs wr w.heap.size c (reps s k) ∧ Below w.heap.size w wr) (fun _ i _ => 12 - (intOf i).toNat)
  case atStart => exact ⟨0, by omega, rfl, ⟨rfl, Or.inl ⟨rfl, rfl⟩⟩, Below.refl _ _⟩
  case round =>
    obtain ⟨k, hk, rfl, O, B⟩ := hrel
    by_cases hlt : k < 12
    · have hks : k < s.size := by omega
      have hd12 : decide ((k : Int) < 12) = true := decide_eq_true (by omega)
      go_wp2_with fail
      go_loopw [3, 5] (fun c d wr => ∃ j : Nat, j ≤ 10 ∧ d = .int .u8 (48 + j) ∧ Strs wr w.heap.size c (reps s k ++ repsAt s k j) ∧ Below w.heap.size w wr) (fun _ d _ => 58 - (intOf d).toNat)
      case atStart => exact ⟨0, by omega, rfl, by simpa [repsAt] using O, B⟩
      case round =>
        obtain ⟨j, hj, rfl, O2, B2⟩ := hrel
        by_cases hlj : j < 10
        · by_cases hc : 48 + j = s[k].toNat
          · have hc' : ((48 + (j : Int)) != (s[k].toNat : Int)) = false := by rw [bne_eq_false_iff_eq]; omega
            go_wp2_with fail
            exact ⟨⟨j + 1, by omega, by go_num, by
              rw [repsAt_succ, getD_byte s k hks, if_neg (by simp [hc]), List.append_nil]; exact O2, B2⟩, by simp [intOf]; omega⟩
          · have hc' : ((48 + (j : Int)) != (s[k].toNat : Int)) = true := by rw [bne_iff_ne]; omega
            have hn : (reps s k ++ repsAt s k j).length ≤ 120 := by
              rw [List.length_append]; have := reps_len s k; have := repsAt_len s k j; omega
            have HN := Lib.hid hc
            have hl := B2.size
            have q0 : (0 : Int) ≤ (k : Int) := by omega
            have q1 : (k : Int) ≤ 12 := by omega
            have q2 : (0 : Int) ≤ (k : Int) + 1 := by omega
            have q3 : (k : Int) + 1 ≤ 12 := by omega
            have q4 : IntKind.i64.wrap ((k : Int) + 1) = (k : Int) + 1 := IntWalk.i64_in _ (by omega)
            have q5 : IntKind.i32.wrap (48 + (j : Int)) = 48 + (j : Int) := IntWalk.i32_in _ (by omega)
            have q6 : (strOfNums [48 + (j : Int)]).size = 1 := by rw [strOfNums_size]; rfl
            have q7 : ¬ 9223372036854775807 < k + 1 := by omega
            have q8 : ¬ 9223372036854775807 < k + 1 + (11 - k) := by omega
            have hr := fun w => rune_one w (48 + (j : Int)) (by omega) (by omega)
            clear hc O B
            go_wp2_with fail
            go_region_held3 (fun _ => True) (trivial)
              ((refine step_append_lies _ (by rfl) _ _ _ (by rfl) w.heap.size 9 i0 _ 1 16 Try.underlying35 hi hz0 hz1 hz2 rfl (by omega) _ _ _ (by rfl) ((O2.alloc _).drew) ⟨wr.heap.size, 0, none⟩ 1 1 [.string (rep1 s k j)] (by rfl) (by rfl) (World.news_of_block (cs := #[.string (rep1 s k j)]) (t := 9) (fr := (0, 0)) (heap_alloc_new wr _)) (by simp [Value.oneCell']) (by omega) (by unfold maxLen; omega) (by omega) (by simp; omega) (wr.heap.size + 1) (by simp) ?_; intro gg cap w1 hown1 hgrow hat hlt2))
            go_wp2_with fail
            have hB3 : Below w.heap.size w w1 := ((B2.alloc hl _).drew).grown hgrow (by simp; omega) (fun q hq => (O2.lt q hq).1)
            go_roundw
            case measure => simp [intOf]; omega
            case rel =>
            refine ⟨j + 1, by omega, by go_num, ?_, hB3⟩
            rw [repsAt_succ, getD_byte s k hks, if_pos (by simpa using HN.out), ← List.append_assoc]
            have e1 : (reps s k ++ repsAt s k j ++ [rep1 s k j]).length = (reps s k).length + (repsAt s k j).length + 1 := by simp; omega
            rw [List.length_append] at hown1
            show World.ownsRow _ _ _ _ _ _ _
            rw [e1, List.map_append]
            exact hown1
        · obtain rfl : j = 10 := by omega
          go_wp2_with fail
          exact ⟨⟨k + 1, by omega, by go_num, by rw [reps_succ]; exact O2, B2⟩, by simp [intOf]; omega⟩
    · obtain rfl : k = 12 := by omega
      go_wp2_with fail
      go_ret
      exact ⟨_, rfl, O, B⟩

/-- Places i and i + 1 exchanged. -/
def exc1 (s : ByteArray) (i : Nat) : ByteArray := s.extract 0 i ++ s.extract (i + 1) (i + 1 + 1) ++ s.extract i (i + 1) ++ s.extract (i + 1 + 1) 12
def excs (s : ByteArray) (n : Nat) : List ByteArray := ((List.range n).filter fun i => (s.data.toList.getD i 48).toNat != (s.data.toList.getD (i + 1) 48).toNat).map (exc1 s)
theorem excs_succ (s : ByteArray) (n : Nat) : excs s (n + 1) = excs s n ++ if (s.data.toList.getD n 48).toNat != (s.data.toList.getD (n + 1) 48).toNat then [exc1 s n] else [] := by
  unfold excs
  rw [List.range_succ, List.filter_append, List.map_append]
  congr 1
  rw [List.filter_cons, List.filter_nil]
  generalize (s.data.toList.getD n 48).toNat = c
  generalize (s.data.toList.getD (n + 1) 48).toNat = d
  cases h : (c != d) <;> simp [List.filter_cons, h]
theorem excs_len (s : ByteArray) (n : Nat) : (excs s n).length ≤ n := by
  unfold excs
  rw [List.length_map]
  exact Nat.le_trans (List.length_filter_le _ _) (by simp)

set_option maxHeartbeats 800000 in
theorem excs_any (s : ByteArray) (w : World) (hz : s.size = 12) :
    Calls Try.prog 32 #[.string s] w (InsPost w.heap.size (excs s 11) w) := by
  obtain ⟨i0, hi, hz0, hz1, hz2⟩ := info_parts infoStr
  go_enter Try.func32, Try.ntmps32
  go_wp2_with fail
  go_loopw [3, 4] (fun c i wr => ∃ k : Nat, k ≤ 11 ∧ i = .int .i64 (k + 1) ∧ Strs wr w.heap.size c (excs s k) ∧ Below w.heap.size w wr) (fun _ i _ => 13 - (intOf i).toNat)
  case atStart => exact ⟨0, by omega, rfl, ⟨rfl, Or.inl ⟨rfl, rfl⟩⟩, Below.refl _ _⟩
  case round =>
    obtain ⟨k, hk, rfl, O, B⟩ := hrel
    by_cases hlt : k < 11
    · have hks : k < s.size := by omega
      have hks1 : k + 1 < s.size := by omega
      have hd12 : decide ((k : Int) + 1 < 12) = true := decide_eq_true (by omega)
      have q0 : (0 : Int) ≤ (k : Int) := by omega
      have q1 : (k : Int) ≤ 12 := by omega
      have q2 : (0 : Int) ≤ (k : Int) + 1 := by omega
      have q3 : (k : Int) + 1 ≤ 12 := by omega
      have q4 : IntKind.i64.wrap ((k : Int) + 1) = (k : Int) + 1 := IntWalk.i64_in _ (by omega)
      have q5 : IntKind.i64.wrap ((k : Int) + 1 + 1) = (k : Int) + 1 + 1 := IntWalk.i64_in _ (by omega)
      have q6 : (k : Int) + 1 + 1 ≤ 12 := by omega
      have q7 : (0 : Int) ≤ (k : Int) + 1 + 1 := by omega
      have q8 : (k : Int) < 12 := by omega
      have q9 : (k : Int) + 1 < 12 := by omega
      have r0 : IntKind.i64.wrap (k : Int) = (k : Int) := IntWalk.i64_in _ (by omega)
      have r1 : IntKind.i64.wrap ((k : Int) + 1 - 1) = (k : Int) := by rw [show (k : Int) + 1 - 1 = k by omega]; exact r0
      have r2 : (k : Int) ≤ (k : Int) + 1 := by omega
      have r3 : (k : Int) + 1 ≤ (k : Int) + 1 + 1 := by omega
      have n1 : ¬ 9223372036854775807 < min k 12 + (((k : Int) + 1 + 1).toNat - (k + 1)) := by omega
      have n4 : ¬ 9223372036854775807 < min k 12 + (((k : Int) + 1 + 1).toNat - (k + 1)) + 1 + (12 - ((k : Int) + 1 + 1).toNat) := by omega
      have m3 : ¬ 9223372036854775807 < min k 12 + (((k : Int) + 1 + 1).toNat - (k + 1)) + 1 := by omega
      have hl := B.size
      have hn := excs_len s k
      have HE := Lib.hid (excs_succ s k)
      have HB := Lib.hid (And.intro (getD_byte s k hks 48) (getD_byte s (k + 1) hks1 48))
      by_cases hc : s[k].toNat = s[k + 1].toNat
      · have hc' : ((s[k].toNat : Int) != (s[k + 1].toNat : Int)) = false := by rw [bne_eq_false_iff_eq]; omega
        have HC := Lib.hid hc
        clear hc
        go_wp2_with fail
        go_quiet (fail)
        go_wp2_with fail
        exact ⟨⟨k + 1, by omega, by go_num, by
          rw [HE.out, HB.out.1, HB.out.2, if_neg (by simp [HC.out]), List.append_nil]; exact Strs.drewN O, bdn B⟩, by simp [intOf]; omega⟩
      · have hc' : ((s[k].toNat : Int) != (s[k + 1].toNat : Int)) = true := by rw [bne_iff_ne]; omega
        have HC := Lib.hid hc
        clear hc
        go_wp2_with fail
        go_quiet (fail)
        go_wp2_with fail
        have O1 : Strs (wr.drewN nq) w.heap.size _ (excs s k) := Strs.drewN O
        have B1 : Below w.heap.size w (wr.drewN nq) := bdn B
        generalize wr.drewN nq = wq at *
        have hl1 := B1.size
        clear O B hl
        go_region_held3 (fun _ => True) (trivial)
              ((refine step_append_lies _ (by rfl) _ _ _ (by rfl) w.heap.size 9 i0 _ 1 16 Try.underlying35 hi hz0 hz1 hz2 rfl (by omega) _ _ _ (by rfl) ((O1.alloc _).drew) ⟨wq.heap.size, 0, none⟩ 1 1 [.string (exc1 s k)] (by rfl) (by rfl) (World.news_of_block (cs := #[.string (exc1 s k)]) (t := 9) (fr := (0, 0)) (heap_alloc_new wq _)) (by simp [Value.oneCell']) (by omega) (by unfold maxLen; omega) (by omega) (by simp; omega) (wq.heap.size + 1) (by simp) ?_; intro gg cap w1 hown1 hgrow hat hlt2))
        go_wp2_with fail
        have hB3 : Below w.heap.size w w1 := ((B1.alloc hl1 _).drew).grown hgrow (by simp; omega) (fun q hq => (O1.lt q hq).1)
        go_roundw
        case measure => simp [intOf]; omega
        case rel =>
        refine ⟨k + 1, by omega, by go_num, ?_, hB3⟩
        rw [HE.out, HB.out.1, HB.out.2, if_pos (by simpa using HC.out)]
        have e1 : (excs s k ++ [exc1 s k]).length = (excs s k).length + 1 := by simp
        show World.ownsRow _ _ _ _ _ _ _
        rw [e1, List.map_append]
        exact hown1
    · obtain rfl : k = 11 := by omega
      go_wp2_with fail
      go_ret
      exact ⟨_, rfl, O, B⟩

end Go.Proofs.Ytmhjdpmibfkhnaa
