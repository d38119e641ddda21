/-
  Stage 16: the law's loads and tracks; the examples of the chapter.
-/
import Derived.Test.YtknkgcphamhjlaaAMat
import Derived.Test.YtknkgcphamhjlaaAFit
import Derived.Test.YtknkgcphamhjlaaMkPick
import Derived.Test.YtknkgcphamhjlaaMkFrom
set_option linter.unusedSimpArgs false
set_option linter.unusedVariables false
namespace Go.Proofs.Ytknkgcphamhjlaa
open Go.RowKit Go.Lib

/-- A list, while it is gathered: of the call's own, with at most n numbers of kind P. -/
structure Lg (P : Int → Prop) (n m N base : Nat) (w : World) (v : Value) (l : List Int) (wr : World) : Prop where
  own : Own .i64 3 wr base v l
  len : l.length ≤ n
  all : ∀ z ∈ l, P z
  mkr : IsMk wr m N
  mv : Moves m w wr
theorem Lg.app {P : Int → Prop} {n m N base : Nat} {w : World} {v v' : Value} {l : List Int} {wr w5 w' : World} {y : Int} (h : Lg P n m N base w v l wr) (hm : m < base) (hb : base ≤ wr.heap.size) (hwb : w.heap.size ≤ base) (k5 : IsMk w5 m (N + 1)) (m5 : Moves m wr w5) (hy : P y)
    (A : AppI base v l y (w5.alloc (.cells #[.int .i64 y] 3)) v' w') : Lg P (n + 1) m (N + 1) base w v' (l ++ [y]) w' := by
  have O5 := (h.own.moves m5 hm).alloc (.cells #[.int .i64 y] 3)
  refine ⟨A.1, by have := h.len; simp; omega, fun z hz => ?_, (k5.alloc _).grown A.2.1 (fun k e => by have := (own_block O5 e.symm.symm).1; omega), ((h.mv.trans m5).alloc _).grown A.2.1 (fun k e => by have := (own_block O5 e).1; omega)⟩
  rcases List.mem_append.1 hz with hz | hz
  · exact h.all z hz
  · rw [List.mem_singleton] at hz; subst hz; exact hy
abbrev PA (z : Int) : Prop := 0 ≤ z ∧ z ≤ 20
abbrev PB (z : Int) : Prop := 1 ≤ z ∧ z ≤ 30
def LsPost (m N n : Nat) (w : World) (e : Ending) (w' : World) : Prop :=
  ∃ va vb a b B, e = .returned (.tuple #[va, vb]) ∧ Own .i64 3 w' w.heap.size va a ∧ Own .i64 3 w' B vb b ∧ (∀ g, va.ownBlock = some g → g < B) ∧ w.heap.size ≤ B ∧ a.length ≤ n ∧ b.length ≤ n + 2 ∧ (∀ z ∈ a, PA z) ∧ (∀ z ∈ b, PB z) ∧ IsMk w' m (N + 2 * n + 4) ∧ Moves m w w'
set_option maxRecDepth 100000 in
set_option maxHeartbeats 3200000 in
theorem lists_any (m N n : Nat) (w : World) (K : IsMk w m N) (hN : N ≤ 100000) (hn : n ≤ 1000) :
    Calls Try.prog 13 #[.pointer (some ⟨m, 0, none⟩), .int .i64 (n : Int)] w (LsPost m N n w) := by
  have HM := Lib.hid K.lt
  have HW := Lib.hid (Nat.le_refl w.heap.size)
  go_enter Try.func13, Try.ntmps13
  go_wp2_with fail
  refine (next_any m N _ w K (by omega) (by omega) (by omega)).mono ?_
  rintro e w1 ⟨v, rfl, v1, v2, k1, m1⟩
  obtain ⟨i0, rfl⟩ := Int.eq_ofNat_of_zero_le v1
  have hi0 : i0 ≤ n := by omega
  have L0 := Lib.hid (show Lg PA (n - i0) m (N + 1 + (n - i0)) w.heap.size w (.slice none 0 0) [] w1 from ⟨Own.nil, Nat.zero_le _, fun z hz => (by cases hz), k1.more (by omega), m1⟩)
  clear k1 m1 v1 v2 K
  go_wp2_with fail
  go_loopw [6, 8] (fun av iv wr => ∃ (i : Nat) (a : List Int), i ≤ n ∧ iv = .int .i64 (i : Int) ∧ Hid (Lg PA (n - i) m (N + 1 + (n - i)) w.heap.size w av a wr)) (fun _ iv _ => (intOf iv).toNat)
  case atStart => exact ⟨i0, [], hi0, rfl, L0⟩
  case round =>
    clear L0
    obtain ⟨i, a, hi, rfl, G⟩ := hrel
    by_cases hlt : 0 < i
    · have hltz : (0 : Int) < (i : Int) := by omega
      have hmr := Lib.hid G.out.mkr.lt
      go_wp2_with fail
      refine (pick_any m (N + 1 + (n - i)) PA _ 7 7 _ (G.out.mkr.alloc _) (by omega) (by omega) (by omega) (by have := hmr.out; omega) (by simp) (by exact new_pick _ _ _ [0, 1, 5, 8, 8, 12, 20] (by decide) _ rfl)).mono ?_
      rintro e w5 ⟨y, rfl, hy, k5, m5⟩
      have HY := Lib.hid hy
      have K5 := Lib.hid k5
      have M5 := Lib.hid (show Moves m wr w5 from ((Moves.refl m wr).alloc _).trans m5)
      have O5 := Lib.hid (G.out.own.moves M5.out HM.out)
      have HLN := Lib.hid (show a.length + 1 ≤ 1000000000 by have := G.out.len; omega)
      have HS5 := Lib.hid (show w.heap.size ≤ w5.heap.size from Nat.le_trans G.out.mv.size M5.out.size)
      clear hy k5 m5
      go_wp2_with (first | (at_builtin; refine wpList_appI _ rfl (.tmp 18) (.tmp 22) rfl w.heap.size _ a rfl (O5.out.alloc _) y w5 rfl _ rfl 1 rfl HLN.out (le_allocW (w := w5) HS5.out) ?_; intro v6 w6 A6; have HG6 := Lib.hid (G.out.app HM.out G.out.mv.size (Nat.le_refl _) K5.out M5.out HY.out A6); clear A6))
      have eI : (i : Int) - 1 = ((i - 1 : Nat) : Int) := by omega
      have HGN := Lib.hid (show Lg PA (n - (i - 1)) m (N + 1 + (n - (i - 1))) w.heap.size w v6 (a ++ [y]) w6 by
        have e1 : n - (i - 1) = n - i + 1 := by omega
        rw [e1]; exact HG6.out)
      go_roundw
      case rel => exact ⟨i - 1, _, by omega, by rw [eI], HGN⟩
      case measure => simp [intOf]; omega
    · obtain rfl : i = 0 := by omega
      clear hlt
      have LA := Lib.hid (show a.length ≤ n by have := G.out.len; omega)
      have PAA := Lib.hid G.out.all
      have KA := Lib.hid (G.out.mkr.more (M := N + 1 + n) (by omega))
      obtain ⟨va, hva⟩ : ∃ v, v = u6 := ⟨_, rfl⟩
      have OA := Lib.hid G.out.own
      have VA := Lib.hid G.out.mv
      rw [← hva] at OA ⊢
      clear hva G
      go_wp2_with fail
      refine (next_any m (N + 1 + n) _ wr KA.out (by omega) (by omega) (by omega)).mono ?_
      rintro e w2 ⟨v, rfl, v1, v2, k2, m2⟩
      obtain ⟨j0, rfl⟩ := Int.eq_ofNat_of_zero_le v1
      have hj0 : j0 ≤ n + 2 := by omega
      have OA2 := Lib.hid (OA.out.moves m2 HM.out)
      have VA2 := Lib.hid (VA.out.trans m2)
      have HAB := Lib.hid (show ∀ g, va.ownBlock = some g → g < w2.heap.size from fun g hg => (own_block OA2.out hg).2)
      have HWB := Lib.hid VA2.out.size
      have HMB := Lib.hid (show m < w2.heap.size from Nat.lt_of_lt_of_le HM.out HWB.out)
      have L0 := Lib.hid (show Lg PB (n + 2 - j0) m (N + 2 + n + (n + 2 - j0)) w2.heap.size w (.slice none 0 0) [] w2 from ⟨Own.nil, Nat.zero_le _, fun z hz => (by cases hz), k2.more (by omega), VA2.out⟩)
      clear k2 m2 v1 v2 KA OA VA VA2
      generalize wr = wo at *
      go_wp2_with fail
      go_loopw [7, 9] (fun bv iv wr => ∃ (i : Nat) (b : List Int), i ≤ n + 2 ∧ iv = .int .i64 (i : Int) ∧ Hid (Lg PB (n + 2 - i) m (N + 2 + n + (n + 2 - i)) w2.heap.size w bv b wr) ∧ Hid (Own .i64 3 wr w.heap.size va a) ∧ Hid (w2.heap.size ≤ wr.heap.size)) (fun _ iv _ => (intOf iv).toNat)
      case atStart => exact ⟨j0, [], hj0, rfl, L0, OA2, Lib.hid (Nat.le_refl _)⟩
      case round =>
        clear L0 OA2
        obtain ⟨i, b, hi, rfl, G, OA, SZ⟩ := hrel
        by_cases hlt : 0 < i
        · have hltz : (0 : Int) < (i : Int) := by omega
          have hmr := Lib.hid G.out.mkr.lt
          go_wp2_with fail
          refine (pick_any m (N + 2 + n + (n + 2 - i)) PB _ 7 7 _ (G.out.mkr.alloc _) (by omega) (by omega) (by omega) (by have := hmr.out; omega) (by simp) (by exact new_pick _ _ _ [1, 5, 8, 8, 12, 20, 30] (by decide) _ rfl)).mono ?_
          rintro e w5 ⟨y, rfl, hy, k5, m5⟩
          have HY := Lib.hid hy
          have K5 := Lib.hid k5
          have M5 := Lib.hid (show Moves m wr w5 from ((Moves.refl m wr).alloc _).trans m5)
          have O5 := Lib.hid (G.out.own.moves M5.out HMB.out)
          have OA5 := Lib.hid (OA.out.moves M5.out HM.out)
          have HLN := Lib.hid (show b.length + 1 ≤ 1000000000 by have := G.out.len; omega)
          have HS5 := Lib.hid (show w2.heap.size ≤ w5.heap.size from Nat.le_trans SZ.out M5.out.size)
          clear hy k5 m5
          go_wp2_with (first | (at_builtin; refine wpList_appI _ rfl (.tmp 32) (.tmp 36) rfl w2.heap.size _ b rfl (O5.out.alloc _) y w5 rfl _ rfl 1 rfl HLN.out (le_allocW (w := w5) HS5.out) ?_; intro v6 w6 A6; have HG6 := Lib.hid (G.out.app HMB.out SZ.out HWB.out K5.out M5.out HY.out A6); have HA6 := Lib.hid ((OA5.out.alloc (.cells #[.int .i64 y] 3)).kept A6.2.1 (by
            cases hq : va.ownBlock with
            | none => exact Or.inl rfl
            | some q => exact Or.inr (fun e => by have h1 := HAB.out q hq; have h2 := (own_block O5.out e.symm).1; omega))); have HZ6 := Lib.hid (Nat.le_trans (le_allocW (w := w5) (o := .cells #[.int .i64 y] 3) HS5.out) A6.2.1.size); clear A6))
          have eI : (i : Int) - 1 = ((i - 1 : Nat) : Int) := by omega
          have HGN := Lib.hid (show Lg PB (n + 2 - (i - 1)) m (N + 2 + n + (n + 2 - (i - 1))) w2.heap.size w v6 (b ++ [y]) w6 by
            have e1 : n + 2 - (i - 1) = n + 2 - i + 1 := by omega
            rw [e1]; exact HG6.out)
          go_roundw
          case rel => exact ⟨i - 1, _, by omega, by rw [eI], HGN, HA6, HZ6⟩
          case measure => simp [intOf]; omega
        · obtain rfl : i = 0 := by omega
          clear hlt
          go_wp2_with fail
          go_ret2
          exact ⟨va, _, a, b, w2.heap.size, rfl, OA.out, G.out.own, HAB.out, HWB.out, LA.out, by have := G.out.len; omega, PAA.out, G.out.all, G.out.mkr.more (by omega), G.out.mv⟩
end Go.Proofs.Ytknkgcphamhjlaa
