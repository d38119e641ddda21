/-
  Stage 6: the maker's SpoilWagon and SpoilBytes. Written by tools/gen_cspl.py.
-/
import Derived.Test.YtgiodpepjajlmaaCMkL
import Derived.Test.YtgiodpepjajlmaaMkSpoil
import Derived.Test.YtgiodpepjajlmaaCEnc
import Derived.Lib.ConvBytes
set_option linter.unusedSimpArgs false
set_option linter.unusedVariables false
namespace Go.Proofs.Ytgiodpepjajlmaa
open Go.RowKit

def SplPost (m N : Nat) (w : World) (e : Ending) (w' : World) : Prop := ∃ y, e = .returned (aggW y) ∧ y.dst.size ≤ 100 ∧ IsMk w' m (N + 4) ∧ Moves m w w'
def odds : List ByteArray := [⟨#[]⟩, ⟨#[65]⟩, ⟨#[97, 32, 98]⟩, ⟨#[97, 98, 99, 100, 101, 102, 103, 104, 105, 106, 107, 108, 109]⟩, ⟨#[45]⟩]
theorem odds_sz : ∀ i : Fin 5, (odds.getD i ⟨#[]⟩).size ≤ 100 := by decide
set_option maxRecDepth 100000 in
set_option maxHeartbeats 6400000 in
theorem mspoilw_any (m N : Nat) (x : Wag) (w : World) (h : IsMk w m N) (hN : N ≤ 1000000000) (hx : validW x = 0) :
    Calls Try.prog 14 #[.pointer (some ⟨m, 0, none⟩), aggW x] w (SplPost m N w) := by
  have hm := h.lt
  have HS := Lib.hid (show x.dst.size ≤ 100 from Nat.le_trans (dst_le hx).2 (by decide))
  have HNS := Lib.hid (show x.num.size ≤ 1000000 by rw [(validR_size (validW_parts hx).1).1]; decide)
  have HM := Lib.hid (show 0 ≤ x.mas ∧ x.mas ≤ 2000 from (wag_more hx).2.2.1)
  obtain ⟨nu, le, ax, ma, br, gd, ge, ds⟩ := x
  obtain ⟨m0, m1⟩ := HM.out
  simp only at m0 m1
  obtain ⟨b, hb⟩ : ∃ b, b = w.heap.size := ⟨_, rfl⟩
  obtain ⟨r, hr⟩ : ∃ r, r = w.heap.size + 1 := ⟨_, rfl⟩
  have HB := Lib.hid hb
  have HR := Lib.hid (show w.heap.size + 1 = r from hr.symm)
  have HRB := Lib.hid (show b + 1 = r by omega)
  have hmb : m < b := by omega
  have hmr : m < r := by omega
  have nb : b ≠ m := by omega
  have nr : r ≠ m := by omega
  have nbr : b ≠ r := by omega
  have hwb : w.heap.size ≤ b := by omega
  have hwr : w.heap.size ≤ r := by omega
  have LB := Lib.hid ((WLoc.new w ⟨nu, le, ax, ma, br, gd, ge, ds⟩ 30 b hb).alloc (.cells #[.string wag0.num, .int .i64 wag0.len, .int .i64 wag0.axl, .int .i64 wag0.mas, .int .i64 wag0.brk, .int .i64 wag0.gds, .bool wag0.gen, .string wag0.dst] 30))
  have L := Lib.hid (WLoc.new (boxW w ⟨nu, le, ax, ma, br, gd, ge, ds⟩) wag0 30 r (by rw [hr]; simp))
  have K := Lib.hid ((h.alloc (.cells #[.string nu, .int .i64 le, .int .i64 ax, .int .i64 ma, .int .i64 br, .int .i64 gd, .bool ge, .string ds] 30)).alloc (.cells #[.string wag0.num, .int .i64 wag0.len, .int .i64 wag0.axl, .int .i64 wag0.mas, .int .i64 wag0.brk, .int .i64 wag0.gds, .bool wag0.gen, .string wag0.dst] 30))
  have V := Lib.hid (((Moves.refl m w).alloc (.cells #[.string nu, .int .i64 le, .int .i64 ax, .int .i64 ma, .int .i64 br, .int .i64 gd, .bool ge, .string ds] 30)).alloc (.cells #[.string wag0.num, .int .i64 wag0.len, .int .i64 wag0.axl, .int .i64 wag0.mas, .int .i64 wag0.brk, .int .i64 wag0.gds, .bool wag0.gen, .string wag0.dst] 30))
  clear h hx
  go_enter Try.func14, Try.ntmps14
  go_wp2_with fail
  refine (next_any m N _ _ K.out (by omega) (by omega) (by omega)).mono ?_
  rintro e w1 ⟨v, rfl, v1, v2, k1, k2⟩
  first | rw [HR.out, ← hb] | rw [HRB.out]
  have V := Lib.hid (V.out.trans k2)
  have L := Lib.hid (L.out.moves k2 nr)
  have LB := Lib.hid (LB.out.moves k2 nb)
  have K := Lib.hid k1
  clear k1 k2 hb hr
  obtain ⟨c0, c1, c2, c3, c4, c5, c6, c7, _⟩ := WBlk.of LB.out.blk
  have fb := LB.out.fz
  have mw : IntKind.i64.wrap (ma + 1) = ma + 1 := IntWalk.i64_in _ (by omega)
  obtain rfl | rfl | rfl | rfl | rfl | rfl | rfl | rfl : v = 0 ∨ v = 1 ∨ v = 2 ∨ v = 3 ∨ v = 4 ∨ v = 5 ∨ v = 6 ∨ v = 7 := by omega
  · go_wp2_with fail
    refine (mspoil_any m (N + 1) nu _ K.out (by omega) HNS.out).mono ?_
    rintro e w2 ⟨t, rfl, _, k1, k2⟩
    have V := Lib.hid (V.out.trans k2)
    have L := Lib.hid (L.out.moves k2 nr)
    have LB := Lib.hid (LB.out.moves k2 nb)
    have K := Lib.hid k1
    clear k1 k2 c0 c1 c2 c3 c4 c5 c6 c7 fb
    obtain ⟨c0, c1, c2, c3, c4, c5, c6, c7, _⟩ := WBlk.of LB.out.blk
    have fb := LB.out.fz
    have LB' := Lib.hid (LB.out.store (y := ⟨t, le, ax, ma, br, gd, ge, ds⟩) (j := 0) (u := .string t) rfl (by decide))
    have K' := Lib.hid (K.out.setCell (p := ⟨b, 0, none⟩) hmb (.string t))
    have V' := Lib.hid (V.out.setCell (p := ⟨b, 0, none⟩) (Or.inr hwb) (.string t))
    have L' := Lib.hid (L.out.other (p := ⟨b, 0, none⟩) nbr (.string t))
    go_upto_region 16 with fail
    clear c0 c1 c2 c3 c4 c5 c6 c7 fb
    have LB := LB'
    have K := K'
    have V := V'
    have L := L'
    clear LB' K' V' L'
    obtain ⟨d0, d1, d2, d3, d4, d5, d6, d7, _⟩ := WBlk.of LB.out.blk
    obtain ⟨e0, e1, e2, e3, e4, e5, e6, e7, _⟩ := WBlk.of L.out.blk
    have fe := L.out.fz
    go_wp2_with fail
    have LF := Lib.hid (L.out.put ⟨t, le, ax, ma, br, gd, ge, ds⟩)
    have VF := Lib.hid (V.out.put (x := ⟨t, le, ax, ma, br, gd, ge, ds⟩) (b := r) hwr)
    have KF := Lib.hid (((((((((K.out.setCell (p := ⟨r, 0, none⟩) hmr (.string (t))).setCell (p := ⟨r, 1, none⟩) hmr (.int .i64 (le))).setCell (p := ⟨r, 2, none⟩) hmr (.int .i64 (ax))).setCell (p := ⟨r, 3, none⟩) hmr (.int .i64 (ma))).setCell (p := ⟨r, 4, none⟩) hmr (.int .i64 (br))).setCell (p := ⟨r, 5, none⟩) hmr (.int .i64 (gd))).setCell (p := ⟨r, 6, none⟩) hmr (.bool (ge))).setCell (p := ⟨r, 7, none⟩) hmr (.string (ds))))
    clear d0 d1 d2 d3 d4 d5 d6 d7 e0 e1 e2 e3 e4 e5 e6 e7 fe
    refine bodyPost_ret (results_rec (R := WR) rfl Try.underlying30 rfl infoW _ _ r ⟨t, le, ax, ma, br, gd, ge, ds⟩ rfl LF.out.blk) rfl ?_
    exact ⟨⟨t, le, ax, ma, br, gd, ge, ds⟩, rfl, HS.out, KF.out.more (by omega), VF.out⟩
  · go_wp2_with fail
    refine (pick_any m (N + 1) (fun _ => True) _ 6 6 _ (K.out.alloc _) (by omega) (by omega) (by omega) (by have := K.out.lt; omega) (by simp) (by exact new_pick _ _ _ [(0), (2), (4), (6), (8), (-1)] (fun _ _ => trivial) _ rfl)).mono ?_
    rintro e w2 ⟨u, rfl, _, k1, k2⟩
    have V := Lib.hid ((V.out.alloc (.cells #[.int .i64 0, .int .i64 2, .int .i64 4, .int .i64 6, .int .i64 8, .int .i64 (-1)] 3)).trans k2)
    have L := Lib.hid ((L.out.alloc (.cells #[.int .i64 0, .int .i64 2, .int .i64 4, .int .i64 6, .int .i64 8, .int .i64 (-1)] 3)).moves k2 nr)
    have LB := Lib.hid ((LB.out.alloc (.cells #[.int .i64 0, .int .i64 2, .int .i64 4, .int .i64 6, .int .i64 8, .int .i64 (-1)] 3)).moves k2 nb)
    have K := Lib.hid k1
    clear k1 k2 c0 c1 c2 c3 c4 c5 c6 c7 fb
    obtain ⟨c0, c1, c2, c3, c4, c5, c6, c7, _⟩ := WBlk.of LB.out.blk
    have fb := LB.out.fz
    have LB' := Lib.hid (LB.out.store (y := ⟨nu, le, u, ma, br, gd, ge, ds⟩) (j := 2) (u := .int .i64 u) rfl (by decide))
    have K' := Lib.hid (K.out.setCell (p := ⟨b, 2, none⟩) hmb (.int .i64 u))
    have V' := Lib.hid (V.out.setCell (p := ⟨b, 2, none⟩) (Or.inr hwb) (.int .i64 u))
    have L' := Lib.hid (L.out.other (p := ⟨b, 2, none⟩) nbr (.int .i64 u))
    go_upto_region 16 with fail
    clear c0 c1 c2 c3 c4 c5 c6 c7 fb
    have LB := LB'
    have K := K'
    have V := V'
    have L := L'
    clear LB' K' V' L'
    obtain ⟨d0, d1, d2, d3, d4, d5, d6, d7, _⟩ := WBlk.of LB.out.blk
    obtain ⟨e0, e1, e2, e3, e4, e5, e6, e7, _⟩ := WBlk.of L.out.blk
    have fe := L.out.fz
    go_wp2_with fail
    have LF := Lib.hid (L.out.put ⟨nu, le, u, ma, br, gd, ge, ds⟩)
    have VF := Lib.hid (V.out.put (x := ⟨nu, le, u, ma, br, gd, ge, ds⟩) (b := r) hwr)
    have KF := Lib.hid (((((((((K.out.setCell (p := ⟨r, 0, none⟩) hmr (.string (nu))).setCell (p := ⟨r, 1, none⟩) hmr (.int .i64 (le))).setCell (p := ⟨r, 2, none⟩) hmr (.int .i64 (u))).setCell (p := ⟨r, 3, none⟩) hmr (.int .i64 (ma))).setCell (p := ⟨r, 4, none⟩) hmr (.int .i64 (br))).setCell (p := ⟨r, 5, none⟩) hmr (.int .i64 (gd))).setCell (p := ⟨r, 6, none⟩) hmr (.bool (ge))).setCell (p := ⟨r, 7, none⟩) hmr (.string (ds))))
    clear d0 d1 d2 d3 d4 d5 d6 d7 e0 e1 e2 e3 e4 e5 e6 e7 fe
    refine bodyPost_ret (results_rec (R := WR) rfl Try.underlying30 rfl infoW _ _ r ⟨nu, le, u, ma, br, gd, ge, ds⟩ rfl LF.out.blk) rfl ?_
    exact ⟨⟨nu, le, u, ma, br, gd, ge, ds⟩, rfl, HS.out, KF.out.more (by omega), VF.out⟩
  · go_wp2_with fail
    refine (pick_any m (N + 1) (fun _ => True) _ 6 6 _ (K.out.alloc _) (by omega) (by omega) (by omega) (by have := K.out.lt; omega) (by simp) (by exact new_pick _ _ _ [(79), (80), (119), (401), (0), (-5)] (fun _ _ => trivial) _ rfl)).mono ?_
    rintro e w2 ⟨u, rfl, _, k1, k2⟩
    have V := Lib.hid ((V.out.alloc (.cells #[.int .i64 79, .int .i64 80, .int .i64 119, .int .i64 401, .int .i64 0, .int .i64 (-5)] 3)).trans k2)
    have L := Lib.hid ((L.out.alloc (.cells #[.int .i64 79, .int .i64 80, .int .i64 119, .int .i64 401, .int .i64 0, .int .i64 (-5)] 3)).moves k2 nr)
    have LB := Lib.hid ((LB.out.alloc (.cells #[.int .i64 79, .int .i64 80, .int .i64 119, .int .i64 401, .int .i64 0, .int .i64 (-5)] 3)).moves k2 nb)
    have K := Lib.hid k1
    clear k1 k2 c0 c1 c2 c3 c4 c5 c6 c7 fb
    obtain ⟨c0, c1, c2, c3, c4, c5, c6, c7, _⟩ := WBlk.of LB.out.blk
    have fb := LB.out.fz
    have LB' := Lib.hid (LB.out.store (y := ⟨nu, u, ax, ma, br, gd, ge, ds⟩) (j := 1) (u := .int .i64 u) rfl (by decide))
    have K' := Lib.hid (K.out.setCell (p := ⟨b, 1, none⟩) hmb (.int .i64 u))
    have V' := Lib.hid (V.out.setCell (p := ⟨b, 1, none⟩) (Or.inr hwb) (.int .i64 u))
    have L' := Lib.hid (L.out.other (p := ⟨b, 1, none⟩) nbr (.int .i64 u))
    go_upto_region 16 with fail
    clear c0 c1 c2 c3 c4 c5 c6 c7 fb
    have LB := LB'
    have K := K'
    have V := V'
    have L := L'
    clear LB' K' V' L'
    obtain ⟨d0, d1, d2, d3, d4, d5, d6, d7, _⟩ := WBlk.of LB.out.blk
    obtain ⟨e0, e1, e2, e3, e4, e5, e6, e7, _⟩ := WBlk.of L.out.blk
    have fe := L.out.fz
    go_wp2_with fail
    have LF := Lib.hid (L.out.put ⟨nu, u, ax, ma, br, gd, ge, ds⟩)
    have VF := Lib.hid (V.out.put (x := ⟨nu, u, ax, ma, br, gd, ge, ds⟩) (b := r) hwr)
    have KF := Lib.hid (((((((((K.out.setCell (p := ⟨r, 0, none⟩) hmr (.string (nu))).setCell (p := ⟨r, 1, none⟩) hmr (.int .i64 (u))).setCell (p := ⟨r, 2, none⟩) hmr (.int .i64 (ax))).setCell (p := ⟨r, 3, none⟩) hmr (.int .i64 (ma))).setCell (p := ⟨r, 4, none⟩) hmr (.int .i64 (br))).setCell (p := ⟨r, 5, none⟩) hmr (.int .i64 (gd))).setCell (p := ⟨r, 6, none⟩) hmr (.bool (ge))).setCell (p := ⟨r, 7, none⟩) hmr (.string (ds))))
    clear d0 d1 d2 d3 d4 d5 d6 d7 e0 e1 e2 e3 e4 e5 e6 e7 fe
    refine bodyPost_ret (results_rec (R := WR) rfl Try.underlying30 rfl infoW _ _ r ⟨nu, u, ax, ma, br, gd, ge, ds⟩ rfl LF.out.blk) rfl ?_
    exact ⟨⟨nu, u, ax, ma, br, gd, ge, ds⟩, rfl, HS.out, KF.out.more (by omega), VF.out⟩
  · go_wp2_with fail
    refine (pick_any m (N + 1) (fun _ => True) _ 4 4 _ (K.out.alloc _) (by omega) (by omega) (by omega) (by have := K.out.lt; omega) (by simp) (by exact new_pick _ _ _ [(49), (50), (2001), (-1)] (fun _ _ => trivial) _ rfl)).mono ?_
    rintro e w2 ⟨u, rfl, _, k1, k2⟩
    have V := Lib.hid ((V.out.alloc (.cells #[.int .i64 49, .int .i64 50, .int .i64 2001, .int .i64 (-1)] 3)).trans k2)
    have L := Lib.hid ((L.out.alloc (.cells #[.int .i64 49, .int .i64 50, .int .i64 2001, .int .i64 (-1)] 3)).moves k2 nr)
    have LB := Lib.hid ((LB.out.alloc (.cells #[.int .i64 49, .int .i64 50, .int .i64 2001, .int .i64 (-1)] 3)).moves k2 nb)
    have K := Lib.hid k1
    clear k1 k2 c0 c1 c2 c3 c4 c5 c6 c7 fb
    obtain ⟨c0, c1, c2, c3, c4, c5, c6, c7, _⟩ := WBlk.of LB.out.blk
    have fb := LB.out.fz
    have LB' := Lib.hid (LB.out.store (y := ⟨nu, le, ax, u, br, gd, ge, ds⟩) (j := 3) (u := .int .i64 u) rfl (by decide))
    have K' := Lib.hid (K.out.setCell (p := ⟨b, 3, none⟩) hmb (.int .i64 u))
    have V' := Lib.hid (V.out.setCell (p := ⟨b, 3, none⟩) (Or.inr hwb) (.int .i64 u))
    have L' := Lib.hid (L.out.other (p := ⟨b, 3, none⟩) nbr (.int .i64 u))
    go_upto_region 16 with fail
    clear c0 c1 c2 c3 c4 c5 c6 c7 fb
    have LB := LB'
    have K := K'
    have V := V'
    have L := L'
    clear LB' K' V' L'
    obtain ⟨d0, d1, d2, d3, d4, d5, d6, d7, _⟩ := WBlk.of LB.out.blk
    obtain ⟨e0, e1, e2, e3, e4, e5, e6, e7, _⟩ := WBlk.of L.out.blk
    have fe := L.out.fz
    go_wp2_with fail
    have LF := Lib.hid (L.out.put ⟨nu, le, ax, u, br, gd, ge, ds⟩)
    have VF := Lib.hid (V.out.put (x := ⟨nu, le, ax, u, br, gd, ge, ds⟩) (b := r) hwr)
    have KF := Lib.hid (((((((((K.out.setCell (p := ⟨r, 0, none⟩) hmr (.string (nu))).setCell (p := ⟨r, 1, none⟩) hmr (.int .i64 (le))).setCell (p := ⟨r, 2, none⟩) hmr (.int .i64 (ax))).setCell (p := ⟨r, 3, none⟩) hmr (.int .i64 (u))).setCell (p := ⟨r, 4, none⟩) hmr (.int .i64 (br))).setCell (p := ⟨r, 5, none⟩) hmr (.int .i64 (gd))).setCell (p := ⟨r, 6, none⟩) hmr (.bool (ge))).setCell (p := ⟨r, 7, none⟩) hmr (.string (ds))))
    clear d0 d1 d2 d3 d4 d5 d6 d7 e0 e1 e2 e3 e4 e5 e6 e7 fe
    refine bodyPost_ret (results_rec (R := WR) rfl Try.underlying30 rfl infoW _ _ r ⟨nu, le, ax, u, br, gd, ge, ds⟩ rfl LF.out.blk) rfl ?_
    exact ⟨⟨nu, le, ax, u, br, gd, ge, ds⟩, rfl, HS.out, KF.out.more (by omega), VF.out⟩
  · go_wp2_with fail
    refine (pick_any m (N + 1) (fun _ => True) _ 3 3 _ (K.out.alloc _) (by omega) (by omega) (by omega) (by have := K.out.lt; omega) (by simp) (by exact new_pick _ _ _ [(-1), (ma), (ma + 1)] (fun _ _ => trivial) _ rfl)).mono ?_
    rintro e w2 ⟨u, rfl, _, k1, k2⟩
    have V := Lib.hid ((V.out.alloc (.cells #[.int .i64 (-1), .int .i64 ma, .int .i64 (ma + 1)] 3)).trans k2)
    have L := Lib.hid ((L.out.alloc (.cells #[.int .i64 (-1), .int .i64 ma, .int .i64 (ma + 1)] 3)).moves k2 nr)
    have LB := Lib.hid ((LB.out.alloc (.cells #[.int .i64 (-1), .int .i64 ma, .int .i64 (ma + 1)] 3)).moves k2 nb)
    have K := Lib.hid k1
    clear k1 k2 c0 c1 c2 c3 c4 c5 c6 c7 fb
    obtain ⟨c0, c1, c2, c3, c4, c5, c6, c7, _⟩ := WBlk.of LB.out.blk
    have fb := LB.out.fz
    have LB' := Lib.hid (LB.out.store (y := ⟨nu, le, ax, ma, u, gd, ge, ds⟩) (j := 4) (u := .int .i64 u) rfl (by decide))
    have K' := Lib.hid (K.out.setCell (p := ⟨b, 4, none⟩) hmb (.int .i64 u))
    have V' := Lib.hid (V.out.setCell (p := ⟨b, 4, none⟩) (Or.inr hwb) (.int .i64 u))
    have L' := Lib.hid (L.out.other (p := ⟨b, 4, none⟩) nbr (.int .i64 u))
    go_upto_region 16 with fail
    clear c0 c1 c2 c3 c4 c5 c6 c7 fb
    have LB := LB'
    have K := K'
    have V := V'
    have L := L'
    clear LB' K' V' L'
    obtain ⟨d0, d1, d2, d3, d4, d5, d6, d7, _⟩ := WBlk.of LB.out.blk
    obtain ⟨e0, e1, e2, e3, e4, e5, e6, e7, _⟩ := WBlk.of L.out.blk
    have fe := L.out.fz
    go_wp2_with fail
    have LF := Lib.hid (L.out.put ⟨nu, le, ax, ma, u, gd, ge, ds⟩)
    have VF := Lib.hid (V.out.put (x := ⟨nu, le, ax, ma, u, gd, ge, ds⟩) (b := r) hwr)
    have KF := Lib.hid (((((((((K.out.setCell (p := ⟨r, 0, none⟩) hmr (.string (nu))).setCell (p := ⟨r, 1, none⟩) hmr (.int .i64 (le))).setCell (p := ⟨r, 2, none⟩) hmr (.int .i64 (ax))).setCell (p := ⟨r, 3, none⟩) hmr (.int .i64 (ma))).setCell (p := ⟨r, 4, none⟩) hmr (.int .i64 (u))).setCell (p := ⟨r, 5, none⟩) hmr (.int .i64 (gd))).setCell (p := ⟨r, 6, none⟩) hmr (.bool (ge))).setCell (p := ⟨r, 7, none⟩) hmr (.string (ds))))
    clear d0 d1 d2 d3 d4 d5 d6 d7 e0 e1 e2 e3 e4 e5 e6 e7 fe
    refine bodyPost_ret (results_rec (R := WR) rfl Try.underlying30 rfl infoW _ _ r ⟨nu, le, ax, ma, u, gd, ge, ds⟩ rfl LF.out.blk) rfl ?_
    exact ⟨⟨nu, le, ax, ma, u, gd, ge, ds⟩, rfl, HS.out, KF.out.more (by omega), VF.out⟩
  · go_wp2_with fail
    refine (pick_any m (N + 1) (fun _ => True) _ 3 3 _ (K.out.alloc _) (by omega) (by omega) (by omega) (by have := K.out.lt; omega) (by simp) (by exact new_pick _ _ _ [(-1), (9), (10)] (fun _ _ => trivial) _ rfl)).mono ?_
    rintro e w2 ⟨u, rfl, _, k1, k2⟩
    have V := Lib.hid ((V.out.alloc (.cells #[.int .i64 (-1), .int .i64 9, .int .i64 10] 3)).trans k2)
    have L := Lib.hid ((L.out.alloc (.cells #[.int .i64 (-1), .int .i64 9, .int .i64 10] 3)).moves k2 nr)
    have LB := Lib.hid ((LB.out.alloc (.cells #[.int .i64 (-1), .int .i64 9, .int .i64 10] 3)).moves k2 nb)
    have K := Lib.hid k1
    clear k1 k2 c0 c1 c2 c3 c4 c5 c6 c7 fb
    obtain ⟨c0, c1, c2, c3, c4, c5, c6, c7, _⟩ := WBlk.of LB.out.blk
    have fb := LB.out.fz
    have LB' := Lib.hid (LB.out.store (y := ⟨nu, le, ax, ma, br, u, ge, ds⟩) (j := 5) (u := .int .i64 u) rfl (by decide))
    have K' := Lib.hid (K.out.setCell (p := ⟨b, 5, none⟩) hmb (.int .i64 u))
    have V' := Lib.hid (V.out.setCell (p := ⟨b, 5, none⟩) (Or.inr hwb) (.int .i64 u))
    have L' := Lib.hid (L.out.other (p := ⟨b, 5, none⟩) nbr (.int .i64 u))
    go_upto_region 16 with fail
    clear c0 c1 c2 c3 c4 c5 c6 c7 fb
    have LB := LB'
    have K := K'
    have V := V'
    have L := L'
    clear LB' K' V' L'
    obtain ⟨d0, d1, d2, d3, d4, d5, d6, d7, _⟩ := WBlk.of LB.out.blk
    obtain ⟨e0, e1, e2, e3, e4, e5, e6, e7, _⟩ := WBlk.of L.out.blk
    have fe := L.out.fz
    go_wp2_with fail
    have LF := Lib.hid (L.out.put ⟨nu, le, ax, ma, br, u, ge, ds⟩)
    have VF := Lib.hid (V.out.put (x := ⟨nu, le, ax, ma, br, u, ge, ds⟩) (b := r) hwr)
    have KF := Lib.hid (((((((((K.out.setCell (p := ⟨r, 0, none⟩) hmr (.string (nu))).setCell (p := ⟨r, 1, none⟩) hmr (.int .i64 (le))).setCell (p := ⟨r, 2, none⟩) hmr (.int .i64 (ax))).setCell (p := ⟨r, 3, none⟩) hmr (.int .i64 (ma))).setCell (p := ⟨r, 4, none⟩) hmr (.int .i64 (br))).setCell (p := ⟨r, 5, none⟩) hmr (.int .i64 (u))).setCell (p := ⟨r, 6, none⟩) hmr (.bool (ge))).setCell (p := ⟨r, 7, none⟩) hmr (.string (ds))))
    clear d0 d1 d2 d3 d4 d5 d6 d7 e0 e1 e2 e3 e4 e5 e6 e7 fe
    refine bodyPost_ret (results_rec (R := WR) rfl Try.underlying30 rfl infoW _ _ r ⟨nu, le, ax, ma, br, u, ge, ds⟩ rfl LF.out.blk) rfl ?_
    exact ⟨⟨nu, le, ax, ma, br, u, ge, ds⟩, rfl, HS.out, KF.out.more (by omega), VF.out⟩
  · go_wp2_with fail
    refine (next_any m (N + 1) _ _ (K.out.alloc _) (by omega) (by omega) (by omega)).mono ?_
    rintro e w2 ⟨q, rfl, q1, q2, k1, k2⟩
    obtain ⟨i, rfl⟩ := Int.eq_ofNat_of_zero_le q1
    have hi : i < odds.length := by show i < 5; omega
    have hc := (k2.cell (p := ⟨w1.heap.size, i, none⟩) (by simp) (by have := K.out.lt; simp; omega)).trans (new_str w1 9 odds i hi)
    have ho := odds_sz ⟨i, by omega⟩
    simp only at ho
    generalize odds.getD i ⟨#[]⟩ = t at *
    have HO := Lib.hid ho
    have q3 : (i : Int) < 5 := by omega
    have V := Lib.hid ((V.out.alloc (.cells #[.string ⟨#[]⟩, .string ⟨#[65]⟩, .string ⟨#[97, 32, 98]⟩, .string ⟨#[97, 98, 99, 100, 101, 102, 103, 104, 105, 106, 107, 108, 109]⟩, .string ⟨#[45]⟩] 9)).trans k2)
    have L := Lib.hid ((L.out.alloc (.cells #[.string ⟨#[]⟩, .string ⟨#[65]⟩, .string ⟨#[97, 32, 98]⟩, .string ⟨#[97, 98, 99, 100, 101, 102, 103, 104, 105, 106, 107, 108, 109]⟩, .string ⟨#[45]⟩] 9)).moves k2 nr)
    have LB := Lib.hid ((LB.out.alloc (.cells #[.string ⟨#[]⟩, .string ⟨#[65]⟩, .string ⟨#[97, 32, 98]⟩, .string ⟨#[97, 98, 99, 100, 101, 102, 103, 104, 105, 106, 107, 108, 109]⟩, .string ⟨#[45]⟩] 9)).moves k2 nb)
    have K := Lib.hid k1
    clear k1 k2 c0 c1 c2 c3 c4 c5 c6 c7 fb ho q2
    obtain ⟨c0, c1, c2, c3, c4, c5, c6, c7, _⟩ := WBlk.of LB.out.blk
    have fb := LB.out.fz
    have LB' := Lib.hid (LB.out.store (y := ⟨nu, le, ax, ma, br, gd, ge, t⟩) (j := 7) (u := .string t) rfl (by decide))
    have K' := Lib.hid (K.out.setCell (p := ⟨b, 7, none⟩) hmb (.string t))
    have V' := Lib.hid (V.out.setCell (p := ⟨b, 7, none⟩) (Or.inr hwb) (.string t))
    have L' := Lib.hid (L.out.other (p := ⟨b, 7, none⟩) nbr (.string t))
    go_upto_region 16 with fail
    clear c0 c1 c2 c3 c4 c5 c6 c7 fb hc
    have LB := LB'
    have K := K'
    have V := V'
    have L := L'
    clear LB' K' V' L'
    obtain ⟨d0, d1, d2, d3, d4, d5, d6, d7, _⟩ := WBlk.of LB.out.blk
    obtain ⟨e0, e1, e2, e3, e4, e5, e6, e7, _⟩ := WBlk.of L.out.blk
    have fe := L.out.fz
    go_wp2_with fail
    have LF := Lib.hid (L.out.put ⟨nu, le, ax, ma, br, gd, ge, t⟩)
    have VF := Lib.hid (V.out.put (x := ⟨nu, le, ax, ma, br, gd, ge, t⟩) (b := r) hwr)
    have KF := Lib.hid (((((((((K.out.setCell (p := ⟨r, 0, none⟩) hmr (.string (nu))).setCell (p := ⟨r, 1, none⟩) hmr (.int .i64 (le))).setCell (p := ⟨r, 2, none⟩) hmr (.int .i64 (ax))).setCell (p := ⟨r, 3, none⟩) hmr (.int .i64 (ma))).setCell (p := ⟨r, 4, none⟩) hmr (.int .i64 (br))).setCell (p := ⟨r, 5, none⟩) hmr (.int .i64 (gd))).setCell (p := ⟨r, 6, none⟩) hmr (.bool (ge))).setCell (p := ⟨r, 7, none⟩) hmr (.string (t))))
    clear d0 d1 d2 d3 d4 d5 d6 d7 e0 e1 e2 e3 e4 e5 e6 e7 fe
    refine bodyPost_ret (results_rec (R := WR) rfl Try.underlying30 rfl infoW _ _ r ⟨nu, le, ax, ma, br, gd, ge, t⟩ rfl LF.out.blk) rfl ?_
    exact ⟨⟨nu, le, ax, ma, br, gd, ge, t⟩, rfl, HO.out, KF.out.more (by omega), VF.out⟩
  · go_upto_region 16 with fail
    clear c0 c1 c2 c3 c4 c5 c6 c7 fb
    obtain ⟨d0, d1, d2, d3, d4, d5, d6, d7, _⟩ := WBlk.of LB.out.blk
    obtain ⟨e0, e1, e2, e3, e4, e5, e6, e7, _⟩ := WBlk.of L.out.blk
    have fe := L.out.fz
    go_wp2_with fail
    have LF := Lib.hid (L.out.put ⟨nu, le, ax, ma, br, gd, ge, ds⟩)
    have VF := Lib.hid (V.out.put (x := ⟨nu, le, ax, ma, br, gd, ge, ds⟩) (b := r) hwr)
    have KF := Lib.hid (((((((((K.out.setCell (p := ⟨r, 0, none⟩) hmr (.string (nu))).setCell (p := ⟨r, 1, none⟩) hmr (.int .i64 (le))).setCell (p := ⟨r, 2, none⟩) hmr (.int .i64 (ax))).setCell (p := ⟨r, 3, none⟩) hmr (.int .i64 (ma))).setCell (p := ⟨r, 4, none⟩) hmr (.int .i64 (br))).setCell (p := ⟨r, 5, none⟩) hmr (.int .i64 (gd))).setCell (p := ⟨r, 6, none⟩) hmr (.bool (ge))).setCell (p := ⟨r, 7, none⟩) hmr (.string (ds))))
    clear d0 d1 d2 d3 d4 d5 d6 d7 e0 e1 e2 e3 e4 e5 e6 e7 fe
    refine bodyPost_ret (results_rec (R := WR) rfl Try.underlying30 rfl infoW _ _ r ⟨nu, le, ax, ma, br, gd, ge, ds⟩ rfl LF.out.blk) rfl ?_
    exact ⟨⟨nu, le, ax, ma, br, gd, ge, ds⟩, rfl, HS.out, KF.out.more (by omega), VF.out⟩
end Go.Proofs.Ytgiodpepjajlmaa
