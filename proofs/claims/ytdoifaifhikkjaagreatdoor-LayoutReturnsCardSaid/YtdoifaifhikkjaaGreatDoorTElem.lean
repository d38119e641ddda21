/-
  Stage 10: the maker's element.
-/
import Derived.Test.YtdoifaifhikkjaaGreatDoorTWord
set_option linter.unusedSimpArgs false
set_option linter.unusedVariables false
namespace Go.Proofs.YtdoifaifhikkjaaGreatDoor
open Go.RowKit

/-- Element i of a kind, at a place. -/
def MkE (k : Int) (i : Nat) (p s : Int) (x : El) : Prop := x.kind = k ∧ x.name = wrdB i ∧ x.par = p ∧ x.side = s ∧ soundE x = true
theorem sound_mk {k p s a g c o : Int} {i : Nat} (hk : k = 1 ∨ k = 2 ∨ k = 3 ∨ k = 4) (hs : 0 ≤ s ∧ s ≤ 2) (ha : 1000 ≤ a ∧ a ≤ 700000) (hg : -150 ≤ g ∧ g ≤ 5000) (hc : 0 ≤ c ∧ c ≤ 150) (ho : if k = 2 then 500000 ≤ o ∧ o ≤ 30000000 else o = 0) : MkE k i p s ⟨k, wrdB i, p, s, a, g, c, o⟩ := by
  refine ⟨rfl, rfl, rfl, rfl, ?_⟩
  have hb : behE ⟨k, wrdB i, p, s, a, g, c, o⟩ = true := by
    unfold behE
    rw [show (El.name ⟨k, wrdB i, p, s, a, g, c, o⟩) = wrdB i from rfl, wrd_name, Bool.true_and, decide_eq_true_eq]
    show 1 ≤ a ∧ a ≤ 1000000 ∧ -10000 ≤ g ∧ g ≤ 10000 ∧ 0 ≤ c ∧ c ≤ 5000 ∧ 0 ≤ s ∧ s ≤ 2
    omega
  unfold soundE
  rw [hb]
  show (if k = 0 then _ else if k = 2 then _ else if k = 1 ∨ k = 3 ∨ k = 4 then _ else false) = true
  rw [if_neg (by omega)]
  by_cases h2 : k = 2
  · rw [if_pos h2, Bool.true_and, decide_eq_true_eq]
    rw [if_pos h2] at ho
    show 1 ≤ o ∧ o ≤ 1000000000
    omega
  · rw [if_neg h2, if_pos (by omega), Bool.true_and, decide_eq_true_eq]
    rw [if_neg h2] at ho
    exact ho
def ElPost (m N : Nat) (k : Int) (i : Nat) (p s : Int) (w : World) (e : Ending) (w' : World) : Prop := ∃ x, e = .returned (aggE x) ∧ MkE k i p s x ∧ IsMk w' m (N + 5) ∧ Moves m w w'
set_option maxHeartbeats 3200000 in
theorem melem_any (m N : Nat) (k : Int) (i : Nat) (p s : Int) (w : World) (h : IsMk w m N) (hN : N ≤ 100000000000) (hi : i < 1000000) (hk : k = 1 ∨ k = 2 ∨ k = 3 ∨ k = 4) (hs : 0 ≤ s ∧ s ≤ 2) :
    Calls Tryz.prog 13 #[.pointer (some ⟨m, 0, none⟩), .int .i64 k, .int .i64 (i : Int), .int .i64 p, .int .i64 s] w (ElPost m N k i p s w) := by
  have hm := h.lt
  obtain ⟨r, hr⟩ : ∃ r, r = w.heap.size := ⟨_, rfl⟩
  have HR := Lib.hid hr
  have hmr : m < r := by omega
  have L0 := Lib.hid (locE w zeroE r hr)
  have K0 := Lib.hid (h.alloc (objE zeroE))
  have V0 := Lib.hid ((Moves.refl m w).alloc (objE zeroE))
  have nr : r ≠ m := by omega
  have HKD := Lib.hid hk
  have HSD := Lib.hid hs
  clear h hk hs
  go_enter Tryz.func13, Tryz.ntmps13
  go_wp2_with fail
  refine (word_any i _ hi).mono ?_
  rintro e w1 ⟨rfl, k2⟩
  rw [← hr]
  have K := Lib.hid (K0.out.stays' k2)
  have V := Lib.hid (V0.out.trans (Moves.of_below k2))
  have L := Lib.hid (L0.out.below k2)
  clear k2 K0 V0 L0 hr
  go_wp2_with fail
  refine (pick_any m (N) (fun v => 1000 ≤ v ∧ v ≤ 100000) _ 6 6 _ (K.out.alloc _) (by omega) (by omega) (by omega) (by have := K.out.lt; omega) (by simp) (by exact new_pick _ _ _ [1000, 5000, 9000, 12000, 30000, 100000] (by decide) _ rfl)).mono ?_
  rintro e w2 ⟨len, rfl, ⟨len1, len2⟩, k1, k2⟩
  have V := Lib.hid ((V.out.alloc (.cells #[.int .i64 1000, .int .i64 5000, .int .i64 9000, .int .i64 12000, .int .i64 30000, .int .i64 100000] 3)).trans k2)
  have L := Lib.hid ((L.out.alloc (.cells #[.int .i64 1000, .int .i64 5000, .int .i64 9000, .int .i64 12000, .int .i64 30000, .int .i64 100000] 3)).moves k2 nr)
  have K := Lib.hid k1
  clear k1 k2
  go_wp2_with fail
  refine (pick_any m (N + 1) (fun v => -150 ≤ v ∧ v ≤ 5000) _ 7 7 _ (K.out.alloc _) (by omega) (by omega) (by omega) (by have := K.out.lt; omega) (by simp) (by exact new_pick _ _ _ [0, 100, -150, 400, 1000, 3500, 5000] (by decide) _ rfl)).mono ?_
  rintro e w3 ⟨gra, rfl, ⟨gra1, gra2⟩, k1, k2⟩
  have V := Lib.hid ((V.out.alloc (.cells #[.int .i64 0, .int .i64 100, .int .i64 (-150), .int .i64 400, .int .i64 1000, .int .i64 3500, .int .i64 5000] 3)).trans k2)
  have L := Lib.hid ((L.out.alloc (.cells #[.int .i64 0, .int .i64 100, .int .i64 (-150), .int .i64 400, .int .i64 1000, .int .i64 3500, .int .i64 5000] 3)).moves k2 nr)
  have K := Lib.hid k1
  clear k1 k2
  go_wp2_with fail
  refine (pick_any m (N + 1 + 1) (fun v => 0 ≤ v ∧ v ≤ 150) _ 4 4 _ (K.out.alloc _) (by omega) (by omega) (by omega) (by have := K.out.lt; omega) (by simp) (by exact new_pick _ _ _ [0, 0, 20, 150] (by decide) _ rfl)).mono ?_
  rintro e w4 ⟨cur, rfl, ⟨cur1, cur2⟩, k1, k2⟩
  have V := Lib.hid ((V.out.alloc (.cells #[.int .i64 0, .int .i64 0, .int .i64 20, .int .i64 150] 3)).trans k2)
  have L := Lib.hid ((L.out.alloc (.cells #[.int .i64 0, .int .i64 0, .int .i64 20, .int .i64 150] 3)).moves k2 nr)
  have K := Lib.hid k1
  clear k1 k2
  go_upto_region 2 with fail
  obtain ⟨b, hb⟩ : ∃ b, b = w4.heap.size := ⟨_, rfl⟩
  have nb : b ≠ m := by have := K.out.lt; omega
  have nbr : b ≠ r := by have := L.out.blk.lt; omega
  have hwb : w.heap.size ≤ b := by have := V.out.size; omega
  have hwr : w.heap.size ≤ r := by rw [HR.out]; exact Nat.le_refl _
  have hmb : m < b := by have := K.out.lt; omega
  have LB := Lib.hid (locE w4 ⟨k, wrdB i, p, s, len, gra, cur, 0⟩ b hb)
  have V := Lib.hid (V.out.alloc (objE ⟨k, wrdB i, p, s, len, gra, cur, 0⟩))
  have L := Lib.hid (L.out.alloc (objE ⟨k, wrdB i, p, s, len, gra, cur, 0⟩))
  have K := Lib.hid (K.out.alloc (objE ⟨k, wrdB i, p, s, len, gra, cur, 0⟩))
  rw [← hb]
  generalize (w4.alloc (.cells #[.int .i64 k, .string (wrdB i), .int .i64 p, .int .i64 s, .int .i64 len, .int .i64 gra, .int .i64 cur, .int .i64 0] 39)) = wq at *
  clear hb
  rcases HKD.out with rfl | rfl | rfl | rfl
  · have fb := LB.out.fz
    obtain ⟨c0, c1, c2, c3, c4, c5, c6, c7, _⟩ := EBlk.of LB.out.blk
    obtain ⟨d0, d1, d2, d3, d4, d5, d6, d7, _⟩ := EBlk.of L.out.blk
    have fe := L.out.fz
    go_wp2_with fail
    have LF := Lib.hid (L.out.putE ⟨1, wrdB i, p, s, len, gra, cur, 0⟩)
    have VF := Lib.hid (V.out.putE (x := ⟨1, wrdB i, p, s, len, gra, cur, 0⟩) (b := r) hwr)
    have KF := Lib.hid (K.out.putE (x := ⟨1, wrdB i, p, s, len, gra, cur, 0⟩) (b := r) hmr)
    clear c0 c1 c2 c3 c4 c5 c6 c7 d0 d1 d2 d3 d4 d5 d6 d7 fe
    refine bodyPost_ret (results_rc (R := ER) rfl Tryz.underlying39 rfl infoElM _ _ r ⟨1, wrdB i, p, s, len, gra, cur, 0⟩ rfl LF.out.blk) rfl ?_
    exact ⟨⟨1, wrdB i, p, s, len, gra, cur, 0⟩, rfl, sound_mk (by omega) HSD.out (by omega) (by omega) (by omega) rfl, KF.out.more (by omega), VF.out⟩
  · have fb := LB.out.fz
    obtain ⟨c0, c1, c2, c3, c4, c5, c6, c7, _⟩ := EBlk.of LB.out.blk
    go_wp2_with fail
    clear c0 c1 c2 c3 c4 c5 c6 c7 fb
    refine (pick_any m (N + 1 + 1 + 1) (fun v => 500000 ≤ v ∧ v ≤ 30000000) _ 4 4 _ (K.out.alloc _) (by omega) (by omega) (by omega) (by have := K.out.lt; omega) (by simp) (by exact new_pick _ _ _ [500000, 2000000, 8000000, 30000000] (by decide) _ rfl)).mono ?_
    rintro e w5 ⟨po, rfl, ⟨po1, po2⟩, k1, k2⟩
    have V := Lib.hid ((V.out.alloc (.cells #[.int .i64 500000, .int .i64 2000000, .int .i64 8000000, .int .i64 30000000] 3)).trans k2)
    have LB := Lib.hid ((LB.out.alloc (.cells #[.int .i64 500000, .int .i64 2000000, .int .i64 8000000, .int .i64 30000000] 3)).moves k2 nb)
    have L := Lib.hid ((L.out.alloc (.cells #[.int .i64 500000, .int .i64 2000000, .int .i64 8000000, .int .i64 30000000] 3)).moves k2 nr)
    have K := Lib.hid k1
    clear k1 k2
    have fb := LB.out.fz
    obtain ⟨c0, c1, c2, c3, c4, c5, c6, c7, _⟩ := EBlk.of LB.out.blk
    go_upto_region 7 with fail
    clear c0 c1 c2 c3 c4 c5 c6 c7 fb
    have LB := Lib.hid (LB.out.store (y := ⟨2, wrdB i, p, s, len, gra, cur, po⟩) (j := 7) (u := .int .i64 po) rfl (lt8 (by decide)))
    have K := Lib.hid (K.out.setCell (p := ⟨b, 7, none⟩) hmb (.int .i64 po))
    have V := Lib.hid (V.out.setCell (p := ⟨b, 7, none⟩) (Or.inr hwb) (.int .i64 po))
    have L := Lib.hid (L.out.other (p := ⟨b, 7, none⟩) nbr (.int .i64 po))
    obtain ⟨c0, c1, c2, c3, c4, c5, c6, c7, _⟩ := EBlk.of LB.out.blk
    obtain ⟨d0, d1, d2, d3, d4, d5, d6, d7, _⟩ := EBlk.of L.out.blk
    have fe := L.out.fz
    go_wp2_with fail
    have LF := Lib.hid (L.out.putE ⟨2, wrdB i, p, s, len, gra, cur, po⟩)
    have VF := Lib.hid (V.out.putE (x := ⟨2, wrdB i, p, s, len, gra, cur, po⟩) (b := r) hwr)
    have KF := Lib.hid (K.out.putE (x := ⟨2, wrdB i, p, s, len, gra, cur, po⟩) (b := r) hmr)
    clear c0 c1 c2 c3 c4 c5 c6 c7 d0 d1 d2 d3 d4 d5 d6 d7 fe
    refine bodyPost_ret (results_rc (R := ER) rfl Tryz.underlying39 rfl infoElM _ _ r ⟨2, wrdB i, p, s, len, gra, cur, po⟩ rfl LF.out.blk) rfl ?_
    exact ⟨⟨2, wrdB i, p, s, len, gra, cur, po⟩, rfl, sound_mk (by omega) HSD.out (by omega) (by omega) (by omega) ⟨by omega, by omega⟩, KF.out.more (by omega), VF.out⟩
  · have fb := LB.out.fz
    obtain ⟨c0, c1, c2, c3, c4, c5, c6, c7, _⟩ := EBlk.of LB.out.blk
    obtain ⟨d0, d1, d2, d3, d4, d5, d6, d7, _⟩ := EBlk.of L.out.blk
    have fe := L.out.fz
    go_wp2_with fail
    have LF := Lib.hid (L.out.putE ⟨3, wrdB i, p, s, len, gra, cur, 0⟩)
    have VF := Lib.hid (V.out.putE (x := ⟨3, wrdB i, p, s, len, gra, cur, 0⟩) (b := r) hwr)
    have KF := Lib.hid (K.out.putE (x := ⟨3, wrdB i, p, s, len, gra, cur, 0⟩) (b := r) hmr)
    clear c0 c1 c2 c3 c4 c5 c6 c7 d0 d1 d2 d3 d4 d5 d6 d7 fe
    refine bodyPost_ret (results_rc (R := ER) rfl Tryz.underlying39 rfl infoElM _ _ r ⟨3, wrdB i, p, s, len, gra, cur, 0⟩ rfl LF.out.blk) rfl ?_
    exact ⟨⟨3, wrdB i, p, s, len, gra, cur, 0⟩, rfl, sound_mk (by omega) HSD.out (by omega) (by omega) (by omega) rfl, KF.out.more (by omega), VF.out⟩
  · have fb := LB.out.fz
    obtain ⟨c0, c1, c2, c3, c4, c5, c6, c7, _⟩ := EBlk.of LB.out.blk
    go_wp2_with fail
    clear c0 c1 c2 c3 c4 c5 c6 c7 fb
    refine (pick_any m (N + 1 + 1 + 1) (fun v => 100000 ≤ v ∧ v ≤ 700000) _ 3 3 _ (K.out.alloc _) (by omega) (by omega) (by omega) (by have := K.out.lt; omega) (by simp) (by exact new_pick _ _ _ [100000, 400000, 700000] (by decide) _ rfl)).mono ?_
    rintro e w5 ⟨le, rfl, ⟨le1, le2⟩, k1, k2⟩
    have V := Lib.hid ((V.out.alloc (.cells #[.int .i64 100000, .int .i64 400000, .int .i64 700000] 3)).trans k2)
    have LB := Lib.hid ((LB.out.alloc (.cells #[.int .i64 100000, .int .i64 400000, .int .i64 700000] 3)).moves k2 nb)
    have L := Lib.hid ((L.out.alloc (.cells #[.int .i64 100000, .int .i64 400000, .int .i64 700000] 3)).moves k2 nr)
    have K := Lib.hid k1
    clear k1 k2
    go_wp2_with fail
    refine (pick_any m (N + 1 + 1 + 1 + 1) (fun v => -100 ≤ v ∧ v ≤ 150) _ 4 4 _ (K.out.alloc _) (by omega) (by omega) (by omega) (by have := K.out.lt; omega) (by simp) (by exact new_pick _ _ _ [-100, 0, 50, 150] (by decide) _ rfl)).mono ?_
    rintro e w6 ⟨gr, rfl, ⟨gr1, gr2⟩, k1, k2⟩
    have V := Lib.hid ((V.out.alloc (.cells #[.int .i64 (-100), .int .i64 0, .int .i64 50, .int .i64 150] 3)).trans k2)
    have LB := Lib.hid ((LB.out.alloc (.cells #[.int .i64 (-100), .int .i64 0, .int .i64 50, .int .i64 150] 3)).moves k2 nb)
    have L := Lib.hid ((L.out.alloc (.cells #[.int .i64 (-100), .int .i64 0, .int .i64 50, .int .i64 150] 3)).moves k2 nr)
    have K := Lib.hid k1
    clear k1 k2
    have fb := LB.out.fz
    obtain ⟨c0, c1, c2, c3, c4, c5, c6, c7, _⟩ := EBlk.of LB.out.blk
    go_upto_region 7 with fail
    clear c0 c1 c2 c3 c4 c5 c6 c7 fb
    have LB := Lib.hid ((LB.out.store (y := ⟨4, wrdB i, p, s, le, gra, cur, 0⟩) (j := 4) (u := .int .i64 le) rfl (lt8 (by decide))).store (y := ⟨4, wrdB i, p, s, le, gr, cur, 0⟩) (j := 5) (u := .int .i64 gr) rfl (lt8 (by decide)))
    have K := Lib.hid ((K.out.setCell (p := ⟨b, 4, none⟩) hmb (.int .i64 le)).setCell (p := ⟨b, 5, none⟩) hmb (.int .i64 gr))
    have V := Lib.hid ((V.out.setCell (p := ⟨b, 4, none⟩) (Or.inr hwb) (.int .i64 le)).setCell (p := ⟨b, 5, none⟩) (Or.inr hwb) (.int .i64 gr))
    have L := Lib.hid ((L.out.other (p := ⟨b, 4, none⟩) nbr (.int .i64 le)).other (p := ⟨b, 5, none⟩) nbr (.int .i64 gr))
    obtain ⟨c0, c1, c2, c3, c4, c5, c6, c7, _⟩ := EBlk.of LB.out.blk
    obtain ⟨d0, d1, d2, d3, d4, d5, d6, d7, _⟩ := EBlk.of L.out.blk
    have fe := L.out.fz
    go_wp2_with fail
    have LF := Lib.hid (L.out.putE ⟨4, wrdB i, p, s, le, gr, cur, 0⟩)
    have VF := Lib.hid (V.out.putE (x := ⟨4, wrdB i, p, s, le, gr, cur, 0⟩) (b := r) hwr)
    have KF := Lib.hid (K.out.putE (x := ⟨4, wrdB i, p, s, le, gr, cur, 0⟩) (b := r) hmr)
    clear c0 c1 c2 c3 c4 c5 c6 c7 d0 d1 d2 d3 d4 d5 d6 d7 fe
    refine bodyPost_ret (results_rc (R := ER) rfl Tryz.underlying39 rfl infoElM _ _ r ⟨4, wrdB i, p, s, le, gr, cur, 0⟩ rfl LF.out.blk) rfl ?_
    exact ⟨⟨4, wrdB i, p, s, le, gr, cur, 0⟩, rfl, sound_mk (by omega) HSD.out (by omega) (by omega) (by omega) rfl, KF.out.more (by omega), VF.out⟩
end Go.Proofs.YtdoifaifhikkjaaGreatDoor
