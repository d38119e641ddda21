/-
  Stage 10: the maker's SpoilLayout: a copy of a layout with something wrong in it. Written by tools/gen_spoil10.py.
-/
import Derived.Test.YtgohocbkkhnmnaaGreatDoorLRVal
import Derived.Test.YtgohocbkkhnmnaaGreatDoorTMkLay
import Derived.Test.YtgohocbkkhnmnaaGreatDoorSrc
import Derived.Test.YtgohocbkkhnmnaaGreatDoorLValid
import Derived.Deep.RegionLaw
import Derived.StillTailTactics
set_option linter.unusedSimpArgs false
set_option linter.unusedVariables false
namespace Go.Proofs.YtgohocbkkhnmnaaGreatDoor
open Go.RowKit

section
variable {α : Type} {R : Rec α}
theorem flatR_set (l : List α) (i : Nat) (x y : α) (j : Nat) (u : Value) (hx : l[i]? = some x) (hj : j < R.m) (hy : R.cells y = (R.cells x).set j u) : R.flat (l.set i y) = (R.flat l).set (i * R.m + j) u := by
  induction l generalizing i with
  | nil => simp at hx
  | cons z l ih =>
    cases i with
    | zero =>
      simp at hx
      subst hx
      show R.cells y ++ R.flat l = (R.cells z ++ R.flat l).set (0 * R.m + j) u
      rw [Nat.zero_mul, Nat.zero_add, List.set_append_left _ _ (by rw [R.len]; exact hj), hy]
    | succ i =>
      have := ih i (by simpa using hx)
      show R.cells z ++ R.flat (l.set i y) = (R.cells z ++ R.flat l).set ((i + 1) * R.m + j) u
      rw [List.set_append_right _ _ (by rw [R.len, Nat.succ_mul]; omega), R.len, this]
      congr 2
      rw [Nat.succ_mul]; omega
theorem ROwn.store {T : TypeId} {w : World} {base g n cap : Nat} {l : List α} (h : ROwn R T w base (.slice (some ⟨g, 0, none⟩) n cap) l) (hn : n = l.length) {i : Nat} {x y : α} (hx : l[i]? = some x) {j : Nat} (hj : j < R.m) {u : Value} (hy : R.cells y = (R.cells x).set j u) :
    ROwn R T (w.setCell ⟨g, i * R.m + j, none⟩ u) base (.slice (some ⟨g, 0, none⟩) n cap) (l.set i y) := by
  subst hn
  have := (World.ownsRow.stored h (i * R.m + j) u).1
  unfold ROwn
  rw [List.length_set, flatR_set (R := R) l i x y j u hx hj hy]
  exact this
theorem ROwn.upto {T : TypeId} {w : World} {base g n cap : Nat} {l : List α} (h : ROwn R T w base (.slice (some ⟨g, 0, none⟩) n cap) l) (hn : n = l.length) {i : Nat} (hi : i ≤ n) : ROwn R T w base (.slice (some ⟨g, 0, none⟩) i cap) (l.take i) := by
  subst hn
  obtain ⟨h1, h2⟩ := h
  have hl : (l.take i).length = i := by rw [List.length_take]; omega
  refine ⟨by rw [flatR_len], Or.inr ?_⟩
  rcases h2 with ⟨e, _⟩ | ⟨g', cap', cur, e, e2, e3, e4, e5, e6, e7⟩
  · cases e
  · injection e with e8 e9 e10
    injection e8 with e8
    injection e8 with e8
    subst e8
    subst e10
    refine ⟨g, cap, cur, by rw [hl], e2, e3, by omega, e5, e6, ?_⟩
    rw [hl, flatR_take, ← e7, List.take_take]
    congr 1
    have := Nat.mul_le_mul_right R.m hi
    omega
theorem ROwn.atE {T : TypeId} {w : World} {base g n cap : Nat} {l : List α} (h : ROwn R T w base (.slice (some ⟨g, 0, none⟩) n cap) l) (hn : n = l.length) {i : Nat} {x : α} (hx : l[i]? = some x) : ∀ j u, (R.cells x)[j]? = some u → w.cell? ⟨g, i * R.m + j, none⟩ = some u := by
  intro j u hj
  obtain ⟨A, c, e, H⟩ := h.slice
  injection e with e1 e2 e3
  subst e1
  obtain ⟨ad, e, C⟩ := H.at_ hx
  injection e with e
  subst e
  have := C.cs j u hj
  rw [add_own] at this
  exact this
end
def strsL : List ByteArray := [⟨#[]⟩, ⟨#[65]⟩, ⟨#[101, 48, 48, 48]⟩, ⟨#[101, 48, 48, 49]⟩, ⟨#[97, 98, 99, 100, 101, 102, 103, 104, 105, 106, 107, 108, 109]⟩, ⟨#[97, 58, 108, 101, 102, 116]⟩]
theorem strs_sz : ∀ i : Fin 6, (strsL.getD i ⟨#[]⟩).size ≤ 13 := by decide
theorem new_strE (W : World) (T : TypeId) (l : List ByteArray) (i : Nat) (hi : i < l.length) : (W.alloc (.cells (l.map Value.string).toArray T)).cell? ⟨W.heap.size, i, none⟩ = some (.string (l.getD i ⟨#[]⟩)) := by
  rw [cell_new]
  simp [hi]
theorem sz_set {l : List El} (h : SzF l) {i : Nat} {y : El} (hy : y.name.size ≤ 4611686018427387904) : SzF (l.set i y) := fun x hx => by
  rcases List.mem_or_eq_of_mem_set hx with hx | rfl
  · exact h x hx
  · exact hy
theorem slice_elsL (A : Option Addr) (L c k : Nat) (W : World) (hm : k + 1 ≤ L) : (Instr.slice 23 (.slice A L c) (some (.int .i64 ((k : Int) + 1))) none none).run Tryz.prog W = .ok (.slice (if c = k + 1 then A else A.map (·.add ((k + 1) * 8))) (L - (k + 1)) (c - (k + 1))) W := by
  rw [run_slice_l (P := Tryz.prog) W 23 A L c (by rw [elemEl]; exact Tryz.underlying23) .i64 ((k : Int) + 1) (by omega) (by omega), elemEl]
  have e : ((k : Int) + 1).toNat = k + 1 := by omega
  rw [e]
  simp [sizeEl, Result.andThen, sliced]
def SpPost (m N : Nat) (l : List El) (w : World) (e : Ending) (w' : World) : Prop := ∃ v l', e = .returned v ∧ ROwn ER 35 w' w.heap.size v l' ∧ l'.length ≤ l.length ∧ SzF l' ∧ IsMk w' m (N + 3) ∧ Moves m w w'
set_option maxRecDepth 100000 in
set_option maxHeartbeats 6400000 in
theorem mspoill_any (m N : Nat) (l : List El) (A : Option Addr) (c : Nat) (w : World) (h : IsMk w m N) (hN : N ≤ 10000000000) (H : RRow ER w A l) (hA : A = none → l.length = 0 ∧ c = 0) (hl : l.length ≤ 1000) (hz : SzF l) :
    Calls Tryz.prog 6 #[.pointer (some ⟨m, 0, none⟩), .slice A l.length c] w (SpPost m N l w) := by
  have hm := h.lt
  have K := Lib.hid h
  have HH := Lib.hid H
  have HZ := Lib.hid hz
  have HAA := Lib.hid hA
  obtain ⟨i0, hi, hz0, hz1, hz2⟩ := info_parts infoE
  obtain ⟨L, hL⟩ : ∃ n, n = l.length := ⟨_, rfl⟩
  have HL := Lib.hid hL
  rw [← hL] at hl ⊢
  clear h H hz hA hL
  go_enter Tryz.func6, Tryz.ntmps6
  go_upto_region 2 with (first | (at_builtin; refine wpList_app_src rfl (.tmp 7) (.tmp 8) 23 rfl w.heap.size 35 i0 (aggE zeroE) 8 72 Tryz.underlying23 hi hz0 hz1 hz2 rfl (by decide) (.slice (some ⟨w.heap.size, 0, none⟩) 0 0) 0 [] rfl (own_empty (Nat.le_refl _)) A L c (ER.flat l) rfl (fun e => by rw [HL.out]; exact HAA.out e) (by rw [HL.out]; exact flatR_len ER l) (VRow.news_of (HH.out.alloc _).row) (flatR_one ER l) (by unfold maxLen; omega) (by omega) (by simp) ?_; intro v1 w1 hown hg; have O1 := Lib.hid (show ROwn ER 35 w1 w.heap.size v1 l from (by have := ROwn.app (R := ER) (l := []) (m := l) (n := 0) (k := L) hown rfl HL.out; simpa using this)); have V1 := Lib.hid (((Moves.refl m w).alloc (.cells #[] 35)).grown hg (fun k e => (by simp [Value.ownBlock] at e; omega))); have K1 := Lib.hid ((K.out.alloc (.cells #[] 35)).grown hg (fun k e => (by simp [Value.ownBlock] at e; omega))); clear hown hg; obtain ⟨A1, c1, e1, HR1, hc1, hc2, hA1, _⟩ := O1.out.full; rw [← HL.out] at e1 hc1 hA1; subst e1))
  by_cases h0 : L = 0
  · have h0' : ((L : Int) == 0) = true := by rw [h0]; rfl
    go_wp2_with fail
    go_ret
    exact ⟨_, l, rfl, O1.out, Nat.le_refl _, HZ.out, K1.out.more (by omega), V1.out⟩
  · have h0' : ((L : Int) == 0) = false := beq_eq_false_iff_ne.2 (by omega)
    obtain ⟨g, hg1, hg2, hg3⟩ := hA1 (by omega)
    subst hg1
    have hmg : m < g := by omega
    have hL1 : 1 ≤ L := by omega
    clear hA1 HR1 HH K HAA hi hz0 hz1 hz2 h0
    go_wp2_with fail
    refine (next_any m N (L : Int) _ K1.out (by omega) (by omega) (by omega)).mono ?_
    rintro e w2 ⟨v, rfl, v1, v2, k1, k2⟩
    obtain ⟨i, rfl⟩ := Int.eq_ofNat_of_zero_le v1
    have hiL : (i : Int) < (L : Int) := by omega
    have hiN : i < L := by omega
    have O2 := Lib.hid (O1.out.moves k2 hm)
    have V2 := Lib.hid (V1.out.trans k2)
    have K2 := Lib.hid k1
    clear k1 k2 O1 V1 K1 v1 v2
    obtain ⟨x, hx⟩ : ∃ x, l[i]? = some x := ⟨_, List.getElem?_eq_getElem (by rw [← HL.out]; exact hiN)⟩
    have HX := Lib.hid hx
    clear hx
    go_wp2_with fail
    refine (next_any m (N + 1) 11 _ K2.out (by omega) (by omega) (by omega)).mono ?_
    rintro e w3 ⟨r, rfl, r1, r2, k1, k2⟩
    have O3 := Lib.hid (O2.out.moves k2 hm)
    have V3 := Lib.hid (V2.out.trans k2)
    have K3 := Lib.hid k1
    clear k1 k2 O2 V2 K2
    have hr : r = 0 ∨ r = 1 ∨ r = 2 ∨ r = 3 ∨ r = 4 ∨ r = 5 ∨ r = 6 ∨ r = 7 ∨ r = 8 ∨ r = 9 ∨ r = 10 := by omega
    clear r1 r2
    rcases hr with rfl | rfl | rfl | rfl | rfl | rfl | rfl | rfl | rfl | rfl | rfl
    · go_wp2_with fail
      refine (pick_any m (N + 1 + 1) (fun _ => True) _ 7 7 _ (K3.out.alloc _) (by omega) (by omega) (by omega) (by have := K3.out.lt; omega) (by simp) (by exact new_pick _ _ _ [-1, 0, 1, 2, 3, 4, 5] (fun _ _ => trivial) _ rfl)).mono ?_
      rintro e w4 ⟨u, rfl, _, k1, k2⟩
      have V4 := Lib.hid ((V3.out.alloc (.cells #[.int .i64 (-1), .int .i64 0, .int .i64 1, .int .i64 2, .int .i64 3, .int .i64 4, .int .i64 5] 3)).trans k2)
      have O4 := Lib.hid ((O3.out.alloc (.cells #[.int .i64 (-1), .int .i64 0, .int .i64 1, .int .i64 2, .int .i64 3, .int .i64 4, .int .i64 5] 3)).moves k2 hm)
      have K4 := Lib.hid k1
      clear k1 k2 O3 V3 K3
      have O5 := Lib.hid (O4.out.store (R := ER) HL.out HX.out (y := { x with kind := u }) (j := 0) (by decide) (u := .int .i64 u) rfl)
      have V5 := Lib.hid (V4.out.setCell (p := ⟨g, i * 8, none⟩) (Or.inr hg2) (.int .i64 u))
      have K5 := Lib.hid (K4.out.setCell (p := ⟨g, i * 8, none⟩) hmg (.int .i64 u))
      have cj : w4.cell? ⟨g, i * 8, none⟩ = some ((cellsE x).getD 0 undef) := O4.out.atE (R := ER) HL.out HX.out 0 _ rfl
      have fj : w4.frozen? ⟨g, i * 8, none⟩ = false := O4.out.frozen HL.out _
      clear O4 V4 K4
      go_wp2_with fail
      go_ret
      exact ⟨_, l.set i { x with kind := u }, rfl, O5.out, by rw [List.length_set]; exact Nat.le_refl _, sz_set HZ.out (HZ.out x (List.mem_of_getElem? HX.out)), K5.out, V5.out⟩
    · go_wp2_with fail
      refine (next_any m (N + 1 + 1) 6 _ (K3.out.alloc _) (by omega) (by omega) (by omega)).mono ?_
      rintro e w4 ⟨q, rfl, q1, q2, k1, k2⟩
      obtain ⟨t, rfl⟩ := Int.eq_ofNat_of_zero_le q1
      have ht : t < strsL.length := by show t < 6; omega
      have hs := (k2.cell (p := ⟨w3.heap.size, t, none⟩) (by simp) (by have := K3.out.lt; simp; omega)).trans (new_strE w3 9 strsL t ht)
      have ho := strs_sz ⟨t, by omega⟩
      simp only at ho
      have V4 := Lib.hid ((V3.out.alloc (.cells (strsL.map Value.string).toArray 9)).trans k2)
      have O4 := Lib.hid ((O3.out.alloc (.cells (strsL.map Value.string).toArray 9)).moves k2 hm)
      generalize strsL.getD t ⟨#[]⟩ = s at *
      have HSS := Lib.hid ho
      have K4 := Lib.hid k1
      have q3 : (t : Int) < 6 := by omega
      clear k1 k2 O3 V3 K3 ho q2
      have O5 := Lib.hid (O4.out.store (R := ER) HL.out HX.out (y := { x with name := s }) (j := 1) (by decide) (u := .string s) rfl)
      have V5 := Lib.hid (V4.out.setCell (p := ⟨g, i * 8 + 1, none⟩) (Or.inr hg2) (.string s))
      have K5 := Lib.hid (K4.out.setCell (p := ⟨g, i * 8 + 1, none⟩) hmg (.string s))
      have cj : w4.cell? ⟨g, i * 8 + 1, none⟩ = some ((cellsE x).getD 1 undef) := O4.out.atE (R := ER) HL.out HX.out 1 _ rfl
      have fj : w4.frozen? ⟨g, i * 8 + 1, none⟩ = false := O4.out.frozen HL.out _
      clear O4 V4 K4
      go_wp2_with fail
      go_ret
      exact ⟨_, l.set i { x with name := s }, rfl, O5.out, by rw [List.length_set]; exact Nat.le_refl _, sz_set HZ.out (by show s.size ≤ 4611686018427387904; have := HSS.out; omega), K5.out, V5.out⟩
    · go_wp2_with fail
      refine (pick_any m (N + 1 + 1) (fun _ => True) _ 6 6 _ (K3.out.alloc _) (by omega) (by omega) (by omega) (by have := K3.out.lt; omega) (by simp) (by exact new_pick _ _ _ [-1, 0, 1, (i : Int), (i : Int) + 1, (L : Int)] (fun _ _ => trivial) _ rfl)).mono ?_
      rintro e w4 ⟨u, rfl, _, k1, k2⟩
      have V4 := Lib.hid ((V3.out.alloc (.cells #[.int .i64 (-1), .int .i64 0, .int .i64 1, .int .i64 ((i : Int)), .int .i64 ((i : Int) + 1), .int .i64 ((L : Int))] 3)).trans k2)
      have O4 := Lib.hid ((O3.out.alloc (.cells #[.int .i64 (-1), .int .i64 0, .int .i64 1, .int .i64 ((i : Int)), .int .i64 ((i : Int) + 1), .int .i64 ((L : Int))] 3)).moves k2 hm)
      have K4 := Lib.hid k1
      clear k1 k2 O3 V3 K3
      have O5 := Lib.hid (O4.out.store (R := ER) HL.out HX.out (y := { x with par := u }) (j := 2) (by decide) (u := .int .i64 u) rfl)
      have V5 := Lib.hid (V4.out.setCell (p := ⟨g, i * 8 + 2, none⟩) (Or.inr hg2) (.int .i64 u))
      have K5 := Lib.hid (K4.out.setCell (p := ⟨g, i * 8 + 2, none⟩) hmg (.int .i64 u))
      have cj : w4.cell? ⟨g, i * 8 + 2, none⟩ = some ((cellsE x).getD 2 undef) := O4.out.atE (R := ER) HL.out HX.out 2 _ rfl
      have fj : w4.frozen? ⟨g, i * 8 + 2, none⟩ = false := O4.out.frozen HL.out _
      clear O4 V4 K4
      go_wp2_with fail
      go_ret
      exact ⟨_, l.set i { x with par := u }, rfl, O5.out, by rw [List.length_set]; exact Nat.le_refl _, sz_set HZ.out (HZ.out x (List.mem_of_getElem? HX.out)), K5.out, V5.out⟩
    · go_wp2_with fail
      refine (pick_any m (N + 1 + 1) (fun _ => True) _ 5 5 _ (K3.out.alloc _) (by omega) (by omega) (by omega) (by have := K3.out.lt; omega) (by simp) (by exact new_pick _ _ _ [-1, 0, 1, 2, 3] (fun _ _ => trivial) _ rfl)).mono ?_
      rintro e w4 ⟨u, rfl, _, k1, k2⟩
      have V4 := Lib.hid ((V3.out.alloc (.cells #[.int .i64 (-1), .int .i64 0, .int .i64 1, .int .i64 2, .int .i64 3] 3)).trans k2)
      have O4 := Lib.hid ((O3.out.alloc (.cells #[.int .i64 (-1), .int .i64 0, .int .i64 1, .int .i64 2, .int .i64 3] 3)).moves k2 hm)
      have K4 := Lib.hid k1
      clear k1 k2 O3 V3 K3
      have O5 := Lib.hid (O4.out.store (R := ER) HL.out HX.out (y := { x with side := u }) (j := 3) (by decide) (u := .int .i64 u) rfl)
      have V5 := Lib.hid (V4.out.setCell (p := ⟨g, i * 8 + 3, none⟩) (Or.inr hg2) (.int .i64 u))
      have K5 := Lib.hid (K4.out.setCell (p := ⟨g, i * 8 + 3, none⟩) hmg (.int .i64 u))
      have cj : w4.cell? ⟨g, i * 8 + 3, none⟩ = some ((cellsE x).getD 3 undef) := O4.out.atE (R := ER) HL.out HX.out 3 _ rfl
      have fj : w4.frozen? ⟨g, i * 8 + 3, none⟩ = false := O4.out.frozen HL.out _
      clear O4 V4 K4
      go_wp2_with fail
      go_ret
      exact ⟨_, l.set i { x with side := u }, rfl, O5.out, by rw [List.length_set]; exact Nat.le_refl _, sz_set HZ.out (HZ.out x (List.mem_of_getElem? HX.out)), K5.out, V5.out⟩
    · go_wp2_with fail
      refine (pick_any m (N + 1 + 1) (fun _ => True) _ 5 5 _ (K3.out.alloc _) (by omega) (by omega) (by omega) (by have := K3.out.lt; omega) (by simp) (by exact new_pick _ _ _ [0, 1, 1000000, 1000001, -1] (fun _ _ => trivial) _ rfl)).mono ?_
      rintro e w4 ⟨u, rfl, _, k1, k2⟩
      have V4 := Lib.hid ((V3.out.alloc (.cells #[.int .i64 0, .int .i64 1, .int .i64 1000000, .int .i64 1000001, .int .i64 (-1)] 3)).trans k2)
      have O4 := Lib.hid ((O3.out.alloc (.cells #[.int .i64 0, .int .i64 1, .int .i64 1000000, .int .i64 1000001, .int .i64 (-1)] 3)).moves k2 hm)
      have K4 := Lib.hid k1
      clear k1 k2 O3 V3 K3
      have O5 := Lib.hid (O4.out.store (R := ER) HL.out HX.out (y := { x with len := u }) (j := 4) (by decide) (u := .int .i64 u) rfl)
      have V5 := Lib.hid (V4.out.setCell (p := ⟨g, i * 8 + 4, none⟩) (Or.inr hg2) (.int .i64 u))
      have K5 := Lib.hid (K4.out.setCell (p := ⟨g, i * 8 + 4, none⟩) hmg (.int .i64 u))
      have cj : w4.cell? ⟨g, i * 8 + 4, none⟩ = some ((cellsE x).getD 4 undef) := O4.out.atE (R := ER) HL.out HX.out 4 _ rfl
      have fj : w4.frozen? ⟨g, i * 8 + 4, none⟩ = false := O4.out.frozen HL.out _
      clear O4 V4 K4
      go_wp2_with fail
      go_ret
      exact ⟨_, l.set i { x with len := u }, rfl, O5.out, by rw [List.length_set]; exact Nat.le_refl _, sz_set HZ.out (HZ.out x (List.mem_of_getElem? HX.out)), K5.out, V5.out⟩
    · go_wp2_with fail
      refine (pick_any m (N + 1 + 1) (fun _ => True) _ 4 4 _ (K3.out.alloc _) (by omega) (by omega) (by omega) (by have := K3.out.lt; omega) (by simp) (by exact new_pick _ _ _ [-10001, -10000, 10000, 10001] (fun _ _ => trivial) _ rfl)).mono ?_
      rintro e w4 ⟨u, rfl, _, k1, k2⟩
      have V4 := Lib.hid ((V3.out.alloc (.cells #[.int .i64 (-10001), .int .i64 (-10000), .int .i64 10000, .int .i64 10001] 3)).trans k2)
      have O4 := Lib.hid ((O3.out.alloc (.cells #[.int .i64 (-10001), .int .i64 (-10000), .int .i64 10000, .int .i64 10001] 3)).moves k2 hm)
      have K4 := Lib.hid k1
      clear k1 k2 O3 V3 K3
      have O5 := Lib.hid (O4.out.store (R := ER) HL.out HX.out (y := { x with gra := u }) (j := 5) (by decide) (u := .int .i64 u) rfl)
      have V5 := Lib.hid (V4.out.setCell (p := ⟨g, i * 8 + 5, none⟩) (Or.inr hg2) (.int .i64 u))
      have K5 := Lib.hid (K4.out.setCell (p := ⟨g, i * 8 + 5, none⟩) hmg (.int .i64 u))
      have cj : w4.cell? ⟨g, i * 8 + 5, none⟩ = some ((cellsE x).getD 5 undef) := O4.out.atE (R := ER) HL.out HX.out 5 _ rfl
      have fj : w4.frozen? ⟨g, i * 8 + 5, none⟩ = false := O4.out.frozen HL.out _
      clear O4 V4 K4
      go_wp2_with fail
      go_ret
      exact ⟨_, l.set i { x with gra := u }, rfl, O5.out, by rw [List.length_set]; exact Nat.le_refl _, sz_set HZ.out (HZ.out x (List.mem_of_getElem? HX.out)), K5.out, V5.out⟩
    · go_wp2_with fail
      refine (pick_any m (N + 1 + 1) (fun _ => True) _ 3 3 _ (K3.out.alloc _) (by omega) (by omega) (by omega) (by have := K3.out.lt; omega) (by simp) (by exact new_pick _ _ _ [-1, 5000, 5001] (fun _ _ => trivial) _ rfl)).mono ?_
      rintro e w4 ⟨u, rfl, _, k1, k2⟩
      have V4 := Lib.hid ((V3.out.alloc (.cells #[.int .i64 (-1), .int .i64 5000, .int .i64 5001] 3)).trans k2)
      have O4 := Lib.hid ((O3.out.alloc (.cells #[.int .i64 (-1), .int .i64 5000, .int .i64 5001] 3)).moves k2 hm)
      have K4 := Lib.hid k1
      clear k1 k2 O3 V3 K3
      have O5 := Lib.hid (O4.out.store (R := ER) HL.out HX.out (y := { x with cur := u }) (j := 6) (by decide) (u := .int .i64 u) rfl)
      have V5 := Lib.hid (V4.out.setCell (p := ⟨g, i * 8 + 6, none⟩) (Or.inr hg2) (.int .i64 u))
      have K5 := Lib.hid (K4.out.setCell (p := ⟨g, i * 8 + 6, none⟩) hmg (.int .i64 u))
      have cj : w4.cell? ⟨g, i * 8 + 6, none⟩ = some ((cellsE x).getD 6 undef) := O4.out.atE (R := ER) HL.out HX.out 6 _ rfl
      have fj : w4.frozen? ⟨g, i * 8 + 6, none⟩ = false := O4.out.frozen HL.out _
      clear O4 V4 K4
      go_wp2_with fail
      go_ret
      exact ⟨_, l.set i { x with cur := u }, rfl, O5.out, by rw [List.length_set]; exact Nat.le_refl _, sz_set HZ.out (HZ.out x (List.mem_of_getElem? HX.out)), K5.out, V5.out⟩
    · go_wp2_with fail
      refine (pick_any m (N + 1 + 1) (fun _ => True) _ 5 5 _ (K3.out.alloc _) (by omega) (by omega) (by omega) (by have := K3.out.lt; omega) (by simp) (by exact new_pick _ _ _ [-1, 0, 1, 1000000000, 1000000001] (fun _ _ => trivial) _ rfl)).mono ?_
      rintro e w4 ⟨u, rfl, _, k1, k2⟩
      have V4 := Lib.hid ((V3.out.alloc (.cells #[.int .i64 (-1), .int .i64 0, .int .i64 1, .int .i64 1000000000, .int .i64 1000000001] 3)).trans k2)
      have O4 := Lib.hid ((O3.out.alloc (.cells #[.int .i64 (-1), .int .i64 0, .int .i64 1, .int .i64 1000000000, .int .i64 1000000001] 3)).moves k2 hm)
      have K4 := Lib.hid k1
      clear k1 k2 O3 V3 K3
      have O5 := Lib.hid (O4.out.store (R := ER) HL.out HX.out (y := { x with pow := u }) (j := 7) (by decide) (u := .int .i64 u) rfl)
      have V5 := Lib.hid (V4.out.setCell (p := ⟨g, i * 8 + 7, none⟩) (Or.inr hg2) (.int .i64 u))
      have K5 := Lib.hid (K4.out.setCell (p := ⟨g, i * 8 + 7, none⟩) hmg (.int .i64 u))
      have cj : w4.cell? ⟨g, i * 8 + 7, none⟩ = some ((cellsE x).getD 7 undef) := O4.out.atE (R := ER) HL.out HX.out 7 _ rfl
      have fj : w4.frozen? ⟨g, i * 8 + 7, none⟩ = false := O4.out.frozen HL.out _
      clear O4 V4 K4
      go_wp2_with fail
      go_ret
      exact ⟨_, l.set i { x with pow := u }, rfl, O5.out, by rw [List.length_set]; exact Nat.le_refl _, sz_set HZ.out (HZ.out x (List.mem_of_getElem? HX.out)), K5.out, V5.out⟩
    · have HT := Lib.hid (show (w3.drew).ownsRow w.heap.size 35 8 (.slice (some ⟨g, 0, none⟩) i c1) i (ER.flat (l.take i)) from by
        have := (O3.out.drewN 1).upto HL.out (i := i) (by omega)
        unfold ROwn at this
        rw [show (l.take i).length = i by rw [List.length_take, ← HL.out]; omega] at this
        exact this)
      obtain ⟨_, _, eR, RR⟩ := (O3.out.drewN 1).slice
      injection eR with eR1 eR2 eR3
      subst eR1
      have hcut := RR.cut (i + 1) c1 (by rw [← HL.out]; exact hc1)
      have hsl1 := fun W => slice_els (some ⟨g, 0, none⟩) L c1 i W (by omega)
      have hsl2 := fun W => slice_elsL (some ⟨g, 0, none⟩) L c1 i W (by omega)
      have hAn : (if c1 = i + 1 then some (⟨g, 0, none⟩ : Addr) else (some (⟨g, 0, none⟩ : Addr)).map (·.add ((i + 1) * 8))) ≠ none := by split <;> simp
      have hcut' : RRow ER w3.drew (if c1 = i + 1 then some (⟨g, 0, none⟩ : Addr) else (some (⟨g, 0, none⟩ : Addr)).map (·.add ((i + 1) * 8))) (l.drop (i + 1)) := hcut
      generalize (if c1 = i + 1 then some (⟨g, 0, none⟩ : Addr) else (some (⟨g, 0, none⟩ : Addr)).map (·.add ((i + 1) * 8))) = A2 at *
      have HCUT := Lib.hid hcut'
      have HAN := Lib.hid hAn
      have hwr : IntKind.i64.wrap ((i : Int) + 1) = (i : Int) + 1 := IntWalk.i64_in _ (by omega)
      have hwr2 : wrap64 ((i : Int) + 1) = (i : Int) + 1 := IntWalk.wrap64_in _ (by omega)
      obtain ⟨i0, hi, hz0, hz1, hz2⟩ := info_parts infoE
      clear RR eR2 eR3 hcut hcut' hAn
      go_upto_region 24 with fail
      have HV4 := Lib.hid (show Moves m w w3.drew from V3.out.drewN (n := 1))
      have HK4 := Lib.hid (show IsMk w3.drew m (N + 1 + 1) from K3.out.drewN (n := 1))
      go_still_tail 7, (by kernel_rfl)
      change wpList _ _ _ _ _ w3.drew
      clear O3 V3 K3 hwr hwr2 hsl1 hsl2
      generalize w3.drew = w4 at *
      have hln : (ER.flat (l.drop (i + 1))).length = (L - (i + 1)) * 8 := by have := flatR_len ER (l.drop (i + 1)); rw [List.length_drop, ← HL.out, show ER.m = 8 from rfl] at this; exact this
      have hl1 : (l.take i).length = i := by rw [List.length_take, ← HL.out]; omega
      have hl2 : (l.drop (i + 1)).length = L - (i + 1) := by rw [List.length_drop, ← HL.out]
      have HLN := Lib.hid hln
      clear hln
      refine wpList_app_src rfl (.tmp 98) (.tmp 102) 23 rfl w.heap.size 35 i0 (aggE zeroE) 8 72 Tryz.underlying23 hi hz0 hz1 hz2 rfl (by decide) (.slice (some ⟨g, 0, none⟩) i c1) i (ER.flat (l.take i)) rfl HT.out A2 (L - (i + 1)) (c1 - (i + 1)) (ER.flat (l.drop (i + 1))) rfl (fun e => absurd e HAN.out) HLN.out (VRow.news_of HCUT.out.row) (flatR_one ER _) (by unfold maxLen; omega) (by omega) HV4.out.size ?_
      intro v5 w5 hown hg
      have O5 := Lib.hid (show ROwn ER 35 w5 w.heap.size v5 (l.take i ++ l.drop (i + 1)) from (ROwn.app (R := ER) (l := l.take i) (m := l.drop (i + 1)) (n := i) (k := L - (i + 1)) hown hl1.symm hl2.symm))
      have V5 := Lib.hid (HV4.out.grown hg (fun k e => (by simp [Value.ownBlock] at e; omega)))
      have K5 := Lib.hid (HK4.out.grown hg (fun k e => (by simp [Value.ownBlock] at e; omega)))
      clear hown hg HLN
      go_wp2_with fail
      clear HT HCUT
      go_ret
      exact ⟨_, _, rfl, O5.out, by rw [List.length_append, List.length_take, List.length_drop]; omega, fun y hy => by
        rcases List.mem_append.1 hy with hy | hy
        · exact HZ.out y (List.mem_of_mem_take hy)
        · exact HZ.out y (List.mem_of_mem_drop hy), K5.out.more (by omega), V5.out⟩
    · have O5 := Lib.hid (O3.out.upto HL.out (i := i) (by omega))
      have hsl := fun W => slice_els (some ⟨g, 0, none⟩) L c1 i W (by omega)
      go_wp2_with fail
      go_ret
      exact ⟨_, l.take i, rfl, O5.out, by rw [List.length_take]; omega, fun y hy => HZ.out y (List.mem_of_mem_take hy), K3.out.more (by omega), V3.out⟩
    · go_wp2_with fail
      go_ret
      exact ⟨_, l, rfl, O3.out, Nat.le_refl _, HZ.out, K3.out.more (by omega), V3.out⟩
end Go.Proofs.YtgohocbkkhnmnaaGreatDoor
