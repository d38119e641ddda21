/-
  Stage 16: the library's rotation of two neighbouring ranges.
-/
import Derived.Test.YtknkgcphamhjlaaASwp
set_option linter.unusedSimpArgs false
set_option linter.unusedVariables false
namespace Go.Proofs.Ytknkgcphamhjlaa
open Go.RowKit Go.Lib Go.Sort Go.Shelf

variable {α : Type} [Inhabited α]
/-- What is left to turn: xs and ys stand at m, and turned about they make the whole. -/
def RotS (enc : α → Value) (w0 : World) (blk off : Nat) (goal : List α) (m i j : Nat) (W : World) : Prop :=
  ∃ pre xs ys post, pre ++ (ys ++ (xs ++ post)) = goal ∧ xs.length = i ∧ ys.length = j ∧ pre.length + i = m ∧ SL enc w0 blk off (pre ++ (xs ++ (ys ++ post))) W
set_option maxHeartbeats 16000000 in
set_option maxRecDepth 1000000 in
theorem rotate_any {enc : α → Value} {cf : α → α → Int} {g : Nat} {cb : Array Value} {blk off : Nat} {d0 : Array α} {w0 : World} (T : Srt enc cf g cb blk off d0 w0) (cap N a m b : Nat) (p x y q : List α) (w : World)
    (hN : N = d0.size) (hl : (p ++ (x ++ (y ++ q))).length = N) (ha : a = p.length) (hm : m = a + x.length) (hb : b = m + y.length) (hx : 0 < x.length) (hy : 0 < y.length) (S : SL enc w0 blk off (p ++ (x ++ (y ++ q))) w) :
    Calls Try.prog 61 #[.slice (some ⟨blk, off, none⟩) N cap, .int .i64 (a : Int), .int .i64 (m : Int), .int .i64 (b : Int), .func (.func g) #[] cb] w fun e w' => e = .returned (.tuple #[]) ∧ SL enc w0 blk off (p ++ (y ++ (x ++ q))) w' := by
  have hs := T.small
  have mixed : Try.prog.follows .mixedOrders = true := by kernel_rfl
  have HT := Lib.hid T
  have S0 : Aside (RotS enc w0 blk off (p ++ (y ++ (x ++ q))) m x.length y.length w) := ⟨p, x, y, q, rfl, rfl, rfl, by omega, S⟩
  obtain ⟨i0, hi0⟩ : ∃ i, i = x.length := ⟨_, rfl⟩
  obtain ⟨j0, hj0⟩ : ∃ i, i = y.length := ⟨_, rfl⟩
  obtain ⟨G, hG⟩ : ∃ G, G = p ++ (y ++ (x ++ q)) := ⟨_, rfl⟩
  have hGl : G.length = N := by rw [hG]; simp at hl ⊢; omega
  rw [← hi0] at S0 hm hx
  rw [← hj0] at S0 hb hy
  rw [← hG] at S0 ⊢
  have HGL := Lib.hid hGl
  have HN := Lib.hid hN
  have hN1 : N ≤ 1000000 := by omega
  have hbN : b ≤ N := by simp at hl; omega
  clear S T hs hN hl ha hi0 hj0 hG hGl
  have e1 : (m : Int) - (a : Int) = (i0 : Int) := by omega
  have e2 : (b : Int) - (m : Int) = (j0 : Int) := by omega
  have hj1 : m + j0 ≤ N := by omega
  have HE1 := Lib.hid e1
  have HE2 := Lib.hid e2
  have HX0 := Lib.hid hx
  have HY0 := Lib.hid hy
  have ham : a ≤ m := by omega
  have hmb : m ≤ b := by omega
  clear e1 e2 hb hm hx hy
  go_enter Try.func61, Try.ntmps61
  go_wp2_with fail
  rw [HE1.out, HE2.out]
  clear HE1 HE2 ham hmb hbN
  go_loopg [10, 11] (i0 + j0) (fun g1 vi vj wr => ∃ (i j : Nat), vi = .int .i64 (i : Int) ∧ vj = .int .i64 (j : Int) ∧ 0 < i ∧ 0 < j ∧ m + j ≤ N ∧ i + j ≤ g1 ∧ Aside (RotS enc w0 blk off G m i j wr))
  case atStart => exact ⟨i0, j0, rfl, rfl, HX0.out, HY0.out, hj1, Nat.le_refl _, S0⟩
  case round =>
    clear S0 hj1 HX0 HY0
    obtain ⟨i, j, rfl, rfl, hi, hj, hmj, hg1, SJ⟩ := hrel
    have him : i ≤ m := by obtain ⟨pre, xs, ys, post, h1, h2, h3, h4, h5⟩ := SJ; omega
    have HI := Lib.hid him
    have emi : (m : Int) - (i : Int) = ((m - i : Nat) : Int) := by omega
    by_cases e : i = j
    · subst e
      have hb : ((i : Int) != (i : Int)) = false := by simp
      have HC := Lib.hid (show Calls Try.prog 67 #[.slice (some ⟨blk, off, none⟩) N cap, .int .i64 ((m - i : Nat) : Int), .int .i64 (m : Int), .int .i64 (i : Int), .func (.func g) #[] cb] wr fun e w' => e = .returned (.tuple #[]) ∧ SL enc w0 blk off G w' from by
        obtain ⟨pre, xs, ys, post, h1, h2, h3, h4, h5⟩ := SJ
        have hlen : (pre ++ (xs ++ ([] ++ (ys ++ post)))).length = N := by rw [← HGL.out, ← h1]; simp; omega
        have := swapRange_any HT.out cap N (m - i) m i pre xs [] ys post wr HN.out hlen (by omega) (by simp; omega) h2 h3 (by simpa using h5)
        rw [← h1]
        simpa using this)
      clear SJ
      go_wp2_with fail
      try rw [emi]
      refine HC.out.mono ?_
      rintro e w2 ⟨rfl, h⟩
      have HS := Lib.hid h
      clear h
      go_wp2_with fail
      go_end0
      exact ⟨rfl, HS.out⟩
    · have hb : ((i : Int) != (j : Int)) = true := by simp; omega
      by_cases hlt : j < i
      · have hltz : (j : Int) < (i : Int) := by omega
        have HC := Lib.hid (show Calls Try.prog 67 #[.slice (some ⟨blk, off, none⟩) N cap, .int .i64 ((m - i : Nat) : Int), .int .i64 (m : Int), .int .i64 (j : Int), .func (.func g) #[] cb] wr fun e w' => e = .returned (.tuple #[]) ∧ RotS enc w0 blk off G m (i - j) j w' from by
          obtain ⟨pre, xs, ys, post, h1, h2, h3, h4, h5⟩ := SJ
          have hcut : xs = xs.take j ++ xs.drop j := (List.take_append_drop j xs).symm
          have ht : (xs.take j).length = j := by rw [List.length_take]; omega
          have hd : (xs.drop j).length = i - j := by rw [List.length_drop]; omega
          generalize xs.take j = x1 at *
          generalize xs.drop j = x2 at *
          subst hcut
          have hlen : (pre ++ (x1 ++ (x2 ++ (ys ++ post)))).length = N := by rw [← HGL.out, ← h1]; simp; omega
          refine (swapRange_any HT.out cap N (m - i) m j pre x1 x2 ys post wr HN.out hlen (by omega) (by omega) ht h3 (by simpa using h5)).mono ?_
          rintro e w2 ⟨rfl, h⟩
          exact ⟨rfl, pre ++ ys, x2, x1, post, by rw [← h1]; simp, hd, ht, by simp; omega, by simpa using h⟩)
        have eij : (i : Int) - (j : Int) = ((i - j : Nat) : Int) := by omega
        clear SJ
        go_wp2_with fail
        try rw [emi]
        refine HC.out.mono ?_
        rintro e w2 ⟨rfl, h⟩
        have HS : Aside (RotS enc w0 blk off G m (i - j) j w2) := h
        clear h HC
        go_wp2_with fail
        try rw [eij]
        go_roundg (i - j + j)
        case measure => omega
        case rel => exact ⟨i - j, j, rfl, rfl, by omega, hj, hmj, Nat.le_refl _, HS⟩
      · have hltz : ¬ (j : Int) < (i : Int) := by omega
        have emj : (m : Int) + (j : Int) - (i : Int) = ((m + j - i : Nat) : Int) := by omega
        have HC := Lib.hid (show Calls Try.prog 67 #[.slice (some ⟨blk, off, none⟩) N cap, .int .i64 ((m - i : Nat) : Int), .int .i64 ((m + j - i : Nat) : Int), .int .i64 (i : Int), .func (.func g) #[] cb] wr fun e w' => e = .returned (.tuple #[]) ∧ RotS enc w0 blk off G m i (j - i) w' from by
          obtain ⟨pre, xs, ys, post, h1, h2, h3, h4, h5⟩ := SJ
          have hcut : ys = ys.take (j - i) ++ ys.drop (j - i) := (List.take_append_drop (j - i) ys).symm
          have ht : (ys.take (j - i)).length = j - i := by rw [List.length_take]; omega
          have hd : (ys.drop (j - i)).length = i := by rw [List.length_drop]; omega
          generalize ys.take (j - i) = y1 at *
          generalize ys.drop (j - i) = y2 at *
          subst hcut
          have hlen : (pre ++ (xs ++ (y1 ++ (y2 ++ post)))).length = N := by rw [← HGL.out, ← h1]; simp; omega
          refine (swapRange_any HT.out cap N (m - i) (m + j - i) i pre xs y1 y2 post wr HN.out hlen (by omega) (by omega) h2 hd (by simpa using h5)).mono ?_
          rintro e w2 ⟨rfl, h⟩
          exact ⟨rfl, pre, y2, y1, xs ++ post, by rw [← h1]; simp, hd, ht, h4, by simpa using h⟩)
        have eji : (j : Int) - (i : Int) = ((j - i : Nat) : Int) := by omega
        clear SJ
        go_wp2_with fail
        try rw [emi]
        try rw [emj]
        refine HC.out.mono ?_
        rintro e w2 ⟨rfl, h⟩
        have HS : Aside (RotS enc w0 blk off G m i (j - i) w2) := h
        clear h HC
        go_wp2_with fail
        try rw [eji]
        go_roundg (i + (j - i))
        case measure => omega
        case rel => exact ⟨i, j - i, rfl, rfl, hi, by omega, by omega, Nat.le_refl _, HS⟩
end Go.Proofs.Ytknkgcphamhjlaa
