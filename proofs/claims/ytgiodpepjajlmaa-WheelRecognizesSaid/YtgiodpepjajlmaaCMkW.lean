/-
  Stage 6: the maker's Wagon. Written by tools/gen_cmkw.py.
-/
import Derived.Test.YtgiodpepjajlmaaCMk
set_option linter.unusedSimpArgs false
set_option linter.unusedVariables false
namespace Go.Proofs.Ytgiodpepjajlmaa
open Go.RowKit

/-- A valid wagon whose number bears i. -/
def OkW (i : Int) (x : Wag) : Prop := validW x = 0 ∧ IsNum i x.num
def MWagPost (m N : Nat) (i : Int) (w : World) (e : Ending) (w' : World) : Prop := ∃ x, e = .returned (aggW x) ∧ OkW i x ∧ IsMk w' m (N + 17) ∧ Moves m w w'
theorem okW_of {i : Int} {x : Wag} (hn : IsNum i x.num) (k : Int) (hk : knd (x.num.data.toList.getD 4 48) = k) (h1 : x.axl = axlK k) (h2 : leastK k ≤ x.len ∧ x.len ≤ 400) (h3 : 50 ≤ x.mas ∧ x.mas ≤ 2000) (h4 : 0 ≤ x.brk ∧ x.brk ≤ x.mas) (h5 : 0 ≤ x.gds ∧ x.gds ≤ 9) (h6 : nameS x.dst = true) : OkW i x :=
  ⟨validW_of hn.2.1 (by rw [hk]; exact h1) ⟨by rw [hk]; exact h2.1, h2.2, h3.1, h3.2, h4.1, h4.2, h5.1, h5.2⟩ h6, hn⟩
theorem brk_in {a u : Int} (h0 : 50 ≤ a) (h1 : a ≤ 2000) (u0 : 0 ≤ u) (u1 : u ≤ 4) : 0 ≤ a * u ∧ a * u ≤ 4 * a := by
  obtain rfl | rfl | rfl | rfl | rfl : u = 0 ∨ u = 1 ∨ u = 2 ∨ u = 3 ∨ u = 4 := by omega
  all_goals omega
set_option maxHeartbeats 3200000 in
theorem mwagon_any (m N : Nat) (i : Int) (w : World) (h : IsMk w m N) (hN : N ≤ 1000000000) (i1 : 0 ≤ i) (i2 : i ≤ 1000000) :
    Calls Try.prog 21 #[.pointer (some ⟨m, 0, none⟩), .int .i64 i] w (MWagPost m N i w) := by
  have hm := h.lt
  obtain ⟨r, hr⟩ : ∃ r, r = w.heap.size := ⟨_, rfl⟩
  have HR := Lib.hid hr
  have hmr : m < r := by omega
  have L0 := Lib.hid (WLoc.new w wag0 30 r hr)
  have K0 := Lib.hid (h.alloc (.cells #[.string wag0.num, .int .i64 wag0.len, .int .i64 wag0.axl, .int .i64 wag0.mas, .int .i64 wag0.brk, .int .i64 wag0.gds, .bool wag0.gen, .string wag0.dst] 30))
  have V0 := Lib.hid ((Moves.refl m w).alloc (.cells #[.string wag0.num, .int .i64 wag0.len, .int .i64 wag0.axl, .int .i64 wag0.mas, .int .i64 wag0.brk, .int .i64 wag0.gds, .bool wag0.gen, .string wag0.dst] 30))
  have nr : r ≠ m := by omega
  clear h
  go_enter Try.func21, Try.ntmps21
  go_wp2_with fail
  refine (mnumber_any m N i _ K0.out (by omega) i1 i2).mono ?_
  rintro e w1 ⟨t, rfl, ht, k1, k2⟩
  rw [← hr]
  have HT := Lib.hid ht
  have K := Lib.hid k1
  have V := Lib.hid (V0.out.trans k2)
  have L := Lib.hid (L0.out.moves k2 nr)
  clear ht k1 k2 K0 V0 L0 hr
  go_wp2_with fail
  refine (pick_any m (N + 11) (fun v => 80 ≤ v ∧ v ≤ 400) _ 6 6 _ (K.out.alloc _) (by omega) (by omega) (by omega) (by have := K.out.lt; omega) (by simp) (by exact new_pick _ _ _ [80, 120, 142, 199, 262, 400] (by decide) _ rfl)).mono ?_
  rintro e w2 ⟨len, rfl, ⟨len1, len2⟩, k1, k2⟩
  have V := Lib.hid ((V.out.alloc (.cells #[.int .i64 80, .int .i64 120, .int .i64 142, .int .i64 199, .int .i64 262, .int .i64 400] 3)).trans k2)
  have L := Lib.hid ((L.out.alloc (.cells #[.int .i64 80, .int .i64 120, .int .i64 142, .int .i64 199, .int .i64 262, .int .i64 400] 3)).moves k2 nr)
  have K := Lib.hid k1
  clear k1 k2
  go_wp2_with fail
  refine (pick_any m (N + 11 + 1) (fun v => 50 ≤ v ∧ v ≤ 2000) _ 5 5 _ (K.out.alloc _) (by omega) (by omega) (by omega) (by have := K.out.lt; omega) (by simp) (by exact new_pick _ _ _ [50, 120, 400, 800, 2000] (by decide) _ rfl)).mono ?_
  rintro e w3 ⟨mas, rfl, ⟨mas1, mas2⟩, k1, k2⟩
  have V := Lib.hid ((V.out.alloc (.cells #[.int .i64 50, .int .i64 120, .int .i64 400, .int .i64 800, .int .i64 2000] 3)).trans k2)
  have L := Lib.hid ((L.out.alloc (.cells #[.int .i64 50, .int .i64 120, .int .i64 400, .int .i64 800, .int .i64 2000] 3)).moves k2 nr)
  have K := Lib.hid k1
  clear k1 k2
  go_wp2_with fail
  refine (pick_any m (N + 11 + 1 + 1) (fun v => 0 ≤ v ∧ v ≤ 9) _ 6 6 _ (K.out.alloc _) (by omega) (by omega) (by omega) (by have := K.out.lt; omega) (by simp) (by exact new_pick _ _ _ [0, 0, 0, 1, 3, 9] (by decide) _ rfl)).mono ?_
  rintro e w4 ⟨gds, rfl, ⟨gds1, gds2⟩, k1, k2⟩
  have V := Lib.hid ((V.out.alloc (.cells #[.int .i64 0, .int .i64 0, .int .i64 0, .int .i64 1, .int .i64 3, .int .i64 9] 3)).trans k2)
  have L := Lib.hid ((L.out.alloc (.cells #[.int .i64 0, .int .i64 0, .int .i64 0, .int .i64 1, .int .i64 3, .int .i64 9] 3)).moves k2 nr)
  have K := Lib.hid k1
  clear k1 k2
  go_wp2_with fail
  refine (next_any m (N + 11 + 1 + 1 + 1) _ _ K.out (by omega) (by omega) (by omega)).mono ?_
  rintro e w5 ⟨gn, rfl, gn1, gn2, k1, k2⟩
  have V := Lib.hid (V.out.trans k2)
  have L := Lib.hid (L.out.moves k2 nr)
  have K := Lib.hid k1
  obtain ⟨gen, hgen⟩ : ∃ gen, gen = (gn == 0) := ⟨_, rfl⟩
  have HGEN := Lib.hid hgen
  clear k1 k2 hgen
  go_wp2_with fail
  refine (mname_any m (N + 11 + 1 + 1 + 1 + 1) _ K.out (by omega)).mono ?_
  rintro e w6 ⟨dst, rfl, hd, k1, k2⟩
  rw [← HGEN.out]
  have HD := Lib.hid hd
  have V := Lib.hid (V.out.trans k2)
  have L := Lib.hid (L.out.moves k2 nr)
  have K := Lib.hid k1
  clear k1 k2 hd gn1 gn2 HGEN
  obtain ⟨b, hb⟩ : ∃ b, b = w6.heap.size := ⟨_, rfl⟩
  have HB := Lib.hid hb
  have nb : b ≠ m := by have := K.out.lt; omega
  have nbr : b ≠ r := by have := L.out.blk.lt; omega
  have hwb : w.heap.size ≤ b := by have := V.out.size; omega
  have hmb : m < b := by have := K.out.lt; omega
  have LB := Lib.hid (WLoc.new w6 ⟨t, len, 4, mas, 0, gds, gen, dst⟩ 30 b hb)
  have V := Lib.hid (V.out.alloc (.cells #[.string t, .int .i64 len, .int .i64 4, .int .i64 mas, .int .i64 0, .int .i64 gds, .bool gen, .string dst] 30))
  have L := Lib.hid (L.out.alloc (.cells #[.string t, .int .i64 len, .int .i64 4, .int .i64 mas, .int .i64 0, .int .i64 gds, .bool gen, .string dst] 30))
  have K := Lib.hid (K.out.alloc (.cells #[.string t, .int .i64 len, .int .i64 4, .int .i64 mas, .int .i64 0, .int .i64 gds, .bool gen, .string dst] 30))
  obtain ⟨hz, hdg, _⟩ := validR_size HT.out.2.1
  have h4 : 4 < t.size := by omega
  have h4' : (4 : Int) < (t.size : Int) := by omega
  have HKN := Lib.hid (show knd (t.data.toList.getD 4 48) = knd t[4] by rw [getD_byte t 4 h4])
  have HZ := Lib.hid hz
  have hbr : ∀ u : Int, 0 ≤ u → u ≤ 4 → 0 ≤ mas * u ∧ mas * u ≤ 4 * mas := fun u u0 u1 => brk_in mas1 mas2 u0 u1
  have HBR := Lib.hid hbr
  clear hz hdg hbr
  go_upto_region 2 with fail
  rw [← hb]
  generalize (w6.alloc (.cells #[.string t, .int .i64 len, .int .i64 4, .int .i64 mas, .int .i64 0, .int .i64 gds, .bool gen, .string dst] 30)) = wq at *
  clear hb
  obtain ⟨c0, c1, c2, c3, c4, c5, c6, c7, _⟩ := WBlk.of LB.out.blk
  have fb := LB.out.fz

  by_cases h50 : t[4].toNat = 50
  · go_upto_region 9 with fail
    have LB2 := Lib.hid (LB.out.store (y := ⟨t, len, 2, mas, 0, gds, gen, dst⟩) (j := 2) (u := .int .i64 2) rfl (by decide))
    have K2 := Lib.hid (K.out.setCell (p := ⟨b, 2, none⟩) hmb (.int .i64 2))
    have V2 := Lib.hid (V.out.setCell (p := ⟨b, 2, none⟩) (Or.inr hwb) (.int .i64 2))
    have L2 := Lib.hid (L.out.other (p := ⟨b, 2, none⟩) nbr (.int .i64 2))
    have HK := Lib.hid (show knd t[4] = 2 by unfold knd; rw [h50]; rfl)
    clear c0 c1 c2 c3 c4 c5 c6 c7 fb
    obtain ⟨c0, c1, c2, c3, c4, c5, c6, c7, _⟩ := WBlk.of LB2.out.blk
    have hbr := HBR.out
    have M5 : N + 11 + 1 + 1 + 1 + 1 + 1 ≤ 1000000000000 := by omega
    go_region_with (first | (go_at_call 15; refine (next_any m (N + 11 + 1 + 1 + 1 + 1 + 1) _ _ K2.out.drew M5 (by decide) (by decide)).mono ?_; rintro e w7 ⟨u, rfl, u1, u2, k1, k2⟩; have m1 := (hbr u u1 (by omega)).1; have m2 := (hbr u u1 (by omega)).2; have hw : IntKind.i64.wrap (mas * u) = mas * u := IntWalk.i64_in _ (by omega); have hw2 : wrap64 (mas * u) = mas * u := IntWalk.wrap64_in _ (by omega); have hq : IntKind.i64.wrap ((mas * u).tdiv 4) = mas * u / 4 := (by rw [Int.tdiv_eq_ediv_of_nonneg m1]; exact IntWalk.i64_in _ (by omega)); have LB3 := Lib.hid ((LB2.out.drewN 1).moves k2 nb); have L3 := Lib.hid ((L2.out.drewN 1).moves k2 nr); have V3 := Lib.hid ((V2.out.drewN (n := 1)).trans k2); have K3 := Lib.hid k1; obtain ⟨d0, d1, d2, d3, d4, d5, d6, d7, _⟩ := WBlk.of LB3.out.blk; have fd := LB3.out.fz; clear k1 k2))
    all_goals
      have LB4 := Lib.hid (LB3.out.store (y := ⟨t, len, 2, mas, mas * u / 4, gds, gen, dst⟩) (j := 4) (u := .int .i64 (mas * u / 4)) rfl (by decide))
      have K4 := Lib.hid (K3.out.setCell (p := ⟨b, 4, none⟩) hmb (.int .i64 (mas * u / 4)))
      have V4 := Lib.hid (V3.out.setCell (p := ⟨b, 4, none⟩) (Or.inr hwb) (.int .i64 (mas * u / 4)))
      have L4 := Lib.hid (L3.out.other (p := ⟨b, 4, none⟩) nbr (.int .i64 (mas * u / 4)))
      clear c0 c1 c2 c3 c4 c5 c6 c7 d0 d1 d2 d3 d4 d5 d6 d7 fd
      obtain ⟨d0, d1, d2, d3, d4, d5, d6, d7, _⟩ := WBlk.of LB4.out.blk
      obtain ⟨e0, e1, e2, e3, e4, e5, e6, e7, _⟩ := WBlk.of L4.out.blk
      have fe := L4.out.fz
      have b0 : 0 ≤ mas * u / 4 := by omega
      have b1 : mas * u / 4 ≤ mas := by omega
      go_wp2_with fail
      have X := Lib.hid (show OkW i ⟨t, len, 2, mas, mas * u / 4, gds, gen, dst⟩ from okW_of HT.out 2 (HKN.out.trans HK.out) (by first | rfl | decide | exact HK2.out.1.symm) ⟨by first | (rw [HK2.out.2]; omega) | (show (80 : Int) ≤ _; omega) | (show (120 : Int) ≤ _; omega), by omega⟩ ⟨mas1, mas2⟩ ⟨b0, b1⟩ ⟨gds1, gds2⟩ HD.out)
      have LF := Lib.hid (L4.out.put ⟨t, len, 2, mas, mas * u / 4, gds, gen, dst⟩)
      have VF := Lib.hid (V4.out.put (x := ⟨t, len, 2, mas, mas * u / 4, gds, gen, dst⟩) (b := r) (by rw [HR.out]; exact Nat.le_refl _))
      have KF := Lib.hid ((((((((K4.out.setCell (p := ⟨r, 0, none⟩) hmr (.string t)).setCell (p := ⟨r, 1, none⟩) hmr (.int .i64 (len))).setCell (p := ⟨r, 2, none⟩) hmr (.int .i64 2)).setCell (p := ⟨r, 3, none⟩) hmr (.int .i64 mas)).setCell (p := ⟨r, 4, none⟩) hmr (.int .i64 (mas * u / 4))).setCell (p := ⟨r, 5, none⟩) hmr (.int .i64 gds)).setCell (p := ⟨r, 6, none⟩) hmr (.bool gen)).setCell (p := ⟨r, 7, none⟩) hmr (.string dst))
      clear d0 d1 d2 d3 d4 d5 d6 d7 e0 e1 e2 e3 e4 e5 e6 e7 fe
      refine bodyPost_ret (results_rec (R := WR) rfl Try.underlying30 rfl infoW _ _ r ⟨t, len, 2, mas, mas * u / 4, gds, gen, dst⟩ rfl LF.out.blk) rfl ?_
      exact ⟨⟨t, len, 2, mas, mas * u / 4, gds, gen, dst⟩, rfl, X.out, KF.out, VF.out⟩
  by_cases h52 : t[4].toNat = 52
  · go_upto_region 9 with fail
    have LB2 := Lib.hid (LB.out.store (y := ⟨t, len, 2, mas, 0, gds, gen, dst⟩) (j := 2) (u := .int .i64 2) rfl (by decide))
    have K2 := Lib.hid (K.out.setCell (p := ⟨b, 2, none⟩) hmb (.int .i64 2))
    have V2 := Lib.hid (V.out.setCell (p := ⟨b, 2, none⟩) (Or.inr hwb) (.int .i64 2))
    have L2 := Lib.hid (L.out.other (p := ⟨b, 2, none⟩) nbr (.int .i64 2))
    have HK := Lib.hid (show knd t[4] = 2 by unfold knd; rw [h52]; rfl)
    clear c0 c1 c2 c3 c4 c5 c6 c7 fb
    obtain ⟨c0, c1, c2, c3, c4, c5, c6, c7, _⟩ := WBlk.of LB2.out.blk
    have hbr := HBR.out
    have M5 : N + 11 + 1 + 1 + 1 + 1 + 1 ≤ 1000000000000 := by omega
    go_region_with (first | (go_at_call 15; refine (next_any m (N + 11 + 1 + 1 + 1 + 1 + 1) _ _ K2.out.drew M5 (by decide) (by decide)).mono ?_; rintro e w7 ⟨u, rfl, u1, u2, k1, k2⟩; have m1 := (hbr u u1 (by omega)).1; have m2 := (hbr u u1 (by omega)).2; have hw : IntKind.i64.wrap (mas * u) = mas * u := IntWalk.i64_in _ (by omega); have hw2 : wrap64 (mas * u) = mas * u := IntWalk.wrap64_in _ (by omega); have hq : IntKind.i64.wrap ((mas * u).tdiv 4) = mas * u / 4 := (by rw [Int.tdiv_eq_ediv_of_nonneg m1]; exact IntWalk.i64_in _ (by omega)); have LB3 := Lib.hid ((LB2.out.drewN 1).moves k2 nb); have L3 := Lib.hid ((L2.out.drewN 1).moves k2 nr); have V3 := Lib.hid ((V2.out.drewN (n := 1)).trans k2); have K3 := Lib.hid k1; obtain ⟨d0, d1, d2, d3, d4, d5, d6, d7, _⟩ := WBlk.of LB3.out.blk; have fd := LB3.out.fz; clear k1 k2))
    all_goals
      have LB4 := Lib.hid (LB3.out.store (y := ⟨t, len, 2, mas, mas * u / 4, gds, gen, dst⟩) (j := 4) (u := .int .i64 (mas * u / 4)) rfl (by decide))
      have K4 := Lib.hid (K3.out.setCell (p := ⟨b, 4, none⟩) hmb (.int .i64 (mas * u / 4)))
      have V4 := Lib.hid (V3.out.setCell (p := ⟨b, 4, none⟩) (Or.inr hwb) (.int .i64 (mas * u / 4)))
      have L4 := Lib.hid (L3.out.other (p := ⟨b, 4, none⟩) nbr (.int .i64 (mas * u / 4)))
      clear c0 c1 c2 c3 c4 c5 c6 c7 d0 d1 d2 d3 d4 d5 d6 d7 fd
      obtain ⟨d0, d1, d2, d3, d4, d5, d6, d7, _⟩ := WBlk.of LB4.out.blk
      obtain ⟨e0, e1, e2, e3, e4, e5, e6, e7, _⟩ := WBlk.of L4.out.blk
      have fe := L4.out.fz
      have b0 : 0 ≤ mas * u / 4 := by omega
      have b1 : mas * u / 4 ≤ mas := by omega
      go_wp2_with fail
      have X := Lib.hid (show OkW i ⟨t, len, 2, mas, mas * u / 4, gds, gen, dst⟩ from okW_of HT.out 2 (HKN.out.trans HK.out) (by first | rfl | decide | exact HK2.out.1.symm) ⟨by first | (rw [HK2.out.2]; omega) | (show (80 : Int) ≤ _; omega) | (show (120 : Int) ≤ _; omega), by omega⟩ ⟨mas1, mas2⟩ ⟨b0, b1⟩ ⟨gds1, gds2⟩ HD.out)
      have LF := Lib.hid (L4.out.put ⟨t, len, 2, mas, mas * u / 4, gds, gen, dst⟩)
      have VF := Lib.hid (V4.out.put (x := ⟨t, len, 2, mas, mas * u / 4, gds, gen, dst⟩) (b := r) (by rw [HR.out]; exact Nat.le_refl _))
      have KF := Lib.hid ((((((((K4.out.setCell (p := ⟨r, 0, none⟩) hmr (.string t)).setCell (p := ⟨r, 1, none⟩) hmr (.int .i64 (len))).setCell (p := ⟨r, 2, none⟩) hmr (.int .i64 2)).setCell (p := ⟨r, 3, none⟩) hmr (.int .i64 mas)).setCell (p := ⟨r, 4, none⟩) hmr (.int .i64 (mas * u / 4))).setCell (p := ⟨r, 5, none⟩) hmr (.int .i64 gds)).setCell (p := ⟨r, 6, none⟩) hmr (.bool gen)).setCell (p := ⟨r, 7, none⟩) hmr (.string dst))
      clear d0 d1 d2 d3 d4 d5 d6 d7 e0 e1 e2 e3 e4 e5 e6 e7 fe
      refine bodyPost_ret (results_rec (R := WR) rfl Try.underlying30 rfl infoW _ _ r ⟨t, len, 2, mas, mas * u / 4, gds, gen, dst⟩ rfl LF.out.blk) rfl ?_
      exact ⟨⟨t, len, 2, mas, mas * u / 4, gds, gen, dst⟩, rfl, X.out, KF.out, VF.out⟩
  by_cases h57 : t[4].toNat = 57
  · obtain ⟨ln, hln⟩ : ∃ ln, ln = max2 len 120 := ⟨_, rfl⟩
    have l1 : 120 ≤ ln := by rw [hln]; unfold max2; split <;> omega
    have l2 : ln ≤ 400 := by rw [hln]; unfold max2; split <;> omega
    have hmx : ∀ w ts t, (Builtin.max_ ts t #[.int .i64 len, .int .i64 120]).run Try.prog w = .ok (.int .i64 ln) w := fun w ts t => by rw [run_max2, hln]
    clear hln
    go_upto_region 9 with fail
    have LB2 := Lib.hid ((LB.out.store (y := ⟨t, len, 6, mas, 0, gds, gen, dst⟩) (j := 2) (u := .int .i64 6) rfl (by decide)).store (y := ⟨t, ln, 6, mas, 0, gds, gen, dst⟩) (j := 1) (u := .int .i64 ln) rfl (by decide))
    have K2 := Lib.hid ((K.out.setCell (p := ⟨b, 2, none⟩) hmb (.int .i64 6)).setCell (p := ⟨b, 1, none⟩) hmb (.int .i64 ln))
    have V2 := Lib.hid ((V.out.setCell (p := ⟨b, 2, none⟩) (Or.inr hwb) (.int .i64 6)).setCell (p := ⟨b, 1, none⟩) (Or.inr hwb) (.int .i64 ln))
    have L2 := Lib.hid ((L.out.other (p := ⟨b, 2, none⟩) nbr (.int .i64 6)).other (p := ⟨b, 1, none⟩) nbr (.int .i64 ln))
    have HK := Lib.hid (show knd t[4] = 3 by unfold knd; rw [h57]; rfl)
    clear c0 c1 c2 c3 c4 c5 c6 c7 fb
    obtain ⟨c0, c1, c2, c3, c4, c5, c6, c7, _⟩ := WBlk.of LB2.out.blk
    have hbr := HBR.out
    have M5 : N + 11 + 1 + 1 + 1 + 1 + 1 ≤ 1000000000000 := by omega
    go_region_with (first | (go_at_call 15; refine (next_any m (N + 11 + 1 + 1 + 1 + 1 + 1) _ _ K2.out.drew M5 (by decide) (by decide)).mono ?_; rintro e w7 ⟨u, rfl, u1, u2, k1, k2⟩; have m1 := (hbr u u1 (by omega)).1; have m2 := (hbr u u1 (by omega)).2; have hw : IntKind.i64.wrap (mas * u) = mas * u := IntWalk.i64_in _ (by omega); have hw2 : wrap64 (mas * u) = mas * u := IntWalk.wrap64_in _ (by omega); have hq : IntKind.i64.wrap ((mas * u).tdiv 4) = mas * u / 4 := (by rw [Int.tdiv_eq_ediv_of_nonneg m1]; exact IntWalk.i64_in _ (by omega)); have LB3 := Lib.hid ((LB2.out.drewN 1).moves k2 nb); have L3 := Lib.hid ((L2.out.drewN 1).moves k2 nr); have V3 := Lib.hid ((V2.out.drewN (n := 1)).trans k2); have K3 := Lib.hid k1; obtain ⟨d0, d1, d2, d3, d4, d5, d6, d7, _⟩ := WBlk.of LB3.out.blk; have fd := LB3.out.fz; clear k1 k2))
    all_goals
      have LB4 := Lib.hid (LB3.out.store (y := ⟨t, ln, 6, mas, mas * u / 4, gds, gen, dst⟩) (j := 4) (u := .int .i64 (mas * u / 4)) rfl (by decide))
      have K4 := Lib.hid (K3.out.setCell (p := ⟨b, 4, none⟩) hmb (.int .i64 (mas * u / 4)))
      have V4 := Lib.hid (V3.out.setCell (p := ⟨b, 4, none⟩) (Or.inr hwb) (.int .i64 (mas * u / 4)))
      have L4 := Lib.hid (L3.out.other (p := ⟨b, 4, none⟩) nbr (.int .i64 (mas * u / 4)))
      clear c0 c1 c2 c3 c4 c5 c6 c7 d0 d1 d2 d3 d4 d5 d6 d7 fd
      obtain ⟨d0, d1, d2, d3, d4, d5, d6, d7, _⟩ := WBlk.of LB4.out.blk
      obtain ⟨e0, e1, e2, e3, e4, e5, e6, e7, _⟩ := WBlk.of L4.out.blk
      have fe := L4.out.fz
      have b0 : 0 ≤ mas * u / 4 := by omega
      have b1 : mas * u / 4 ≤ mas := by omega
      go_wp2_with fail
      have X := Lib.hid (show OkW i ⟨t, ln, 6, mas, mas * u / 4, gds, gen, dst⟩ from okW_of HT.out 3 (HKN.out.trans HK.out) (by first | rfl | decide | exact HK2.out.1.symm) ⟨by first | (rw [HK2.out.2]; omega) | (show (80 : Int) ≤ _; omega) | (show (120 : Int) ≤ _; omega), by omega⟩ ⟨mas1, mas2⟩ ⟨b0, b1⟩ ⟨gds1, gds2⟩ HD.out)
      have LF := Lib.hid (L4.out.put ⟨t, ln, 6, mas, mas * u / 4, gds, gen, dst⟩)
      have VF := Lib.hid (V4.out.put (x := ⟨t, ln, 6, mas, mas * u / 4, gds, gen, dst⟩) (b := r) (by rw [HR.out]; exact Nat.le_refl _))
      have KF := Lib.hid ((((((((K4.out.setCell (p := ⟨r, 0, none⟩) hmr (.string t)).setCell (p := ⟨r, 1, none⟩) hmr (.int .i64 (ln))).setCell (p := ⟨r, 2, none⟩) hmr (.int .i64 6)).setCell (p := ⟨r, 3, none⟩) hmr (.int .i64 mas)).setCell (p := ⟨r, 4, none⟩) hmr (.int .i64 (mas * u / 4))).setCell (p := ⟨r, 5, none⟩) hmr (.int .i64 gds)).setCell (p := ⟨r, 6, none⟩) hmr (.bool gen)).setCell (p := ⟨r, 7, none⟩) hmr (.string dst))
      clear d0 d1 d2 d3 d4 d5 d6 d7 e0 e1 e2 e3 e4 e5 e6 e7 fe
      refine bodyPost_ret (results_rec (R := WR) rfl Try.underlying30 rfl infoW _ _ r ⟨t, ln, 6, mas, mas * u / 4, gds, gen, dst⟩ rfl LF.out.blk) rfl ?_
      exact ⟨⟨t, ln, 6, mas, mas * u / 4, gds, gen, dst⟩, rfl, X.out, KF.out, VF.out⟩
  obtain ⟨k, hk, hk2⟩ : ∃ k, knd t[4] = k ∧ (k = 0 ∨ k = 1) := by
    refine ⟨knd t[4], rfl, ?_⟩
    unfold knd
    split
    · exact Or.inr rfl
    · rw [if_neg (by omega)]; exact Or.inl (by first | rfl | (rw [if_neg h57]))
  have HKK := Lib.hid hk
  have HK2 := Lib.hid (show axlK k = 4 ∧ leastK k = 80 by rcases hk2 with rfl | rfl <;> decide)
  clear hk hk2
  go_upto_region 9 with fail
  have LB2 := LB
  have K2 := K
  have V2 := V
  have L2 := L
  have HK := Lib.hid HKK.out
  clear c0 c1 c2 c3 c4 c5 c6 c7 fb
  obtain ⟨c0, c1, c2, c3, c4, c5, c6, c7, _⟩ := WBlk.of LB2.out.blk
  have hbr := HBR.out
  have M5 : N + 11 + 1 + 1 + 1 + 1 + 1 ≤ 1000000000000 := by omega
  go_region_with (first | (go_at_call 15; refine (next_any m (N + 11 + 1 + 1 + 1 + 1 + 1) _ _ K2.out.drew M5 (by decide) (by decide)).mono ?_; rintro e w7 ⟨u, rfl, u1, u2, k1, k2⟩; have m1 := (hbr u u1 (by omega)).1; have m2 := (hbr u u1 (by omega)).2; have hw : IntKind.i64.wrap (mas * u) = mas * u := IntWalk.i64_in _ (by omega); have hw2 : wrap64 (mas * u) = mas * u := IntWalk.wrap64_in _ (by omega); have hq : IntKind.i64.wrap ((mas * u).tdiv 4) = mas * u / 4 := (by rw [Int.tdiv_eq_ediv_of_nonneg m1]; exact IntWalk.i64_in _ (by omega)); have LB3 := Lib.hid ((LB2.out.drewN 1).moves k2 nb); have L3 := Lib.hid ((L2.out.drewN 1).moves k2 nr); have V3 := Lib.hid ((V2.out.drewN (n := 1)).trans k2); have K3 := Lib.hid k1; obtain ⟨d0, d1, d2, d3, d4, d5, d6, d7, _⟩ := WBlk.of LB3.out.blk; have fd := LB3.out.fz; clear k1 k2))
  all_goals
    have LB4 := Lib.hid (LB3.out.store (y := ⟨t, len, 4, mas, mas * u / 4, gds, gen, dst⟩) (j := 4) (u := .int .i64 (mas * u / 4)) rfl (by decide))
    have K4 := Lib.hid (K3.out.setCell (p := ⟨b, 4, none⟩) hmb (.int .i64 (mas * u / 4)))
    have V4 := Lib.hid (V3.out.setCell (p := ⟨b, 4, none⟩) (Or.inr hwb) (.int .i64 (mas * u / 4)))
    have L4 := Lib.hid (L3.out.other (p := ⟨b, 4, none⟩) nbr (.int .i64 (mas * u / 4)))
    clear c0 c1 c2 c3 c4 c5 c6 c7 d0 d1 d2 d3 d4 d5 d6 d7 fd
    obtain ⟨d0, d1, d2, d3, d4, d5, d6, d7, _⟩ := WBlk.of LB4.out.blk
    obtain ⟨e0, e1, e2, e3, e4, e5, e6, e7, _⟩ := WBlk.of L4.out.blk
    have fe := L4.out.fz
    have b0 : 0 ≤ mas * u / 4 := by omega
    have b1 : mas * u / 4 ≤ mas := by omega
    go_wp2_with fail
    have X := Lib.hid (show OkW i ⟨t, len, 4, mas, mas * u / 4, gds, gen, dst⟩ from okW_of HT.out k (HKN.out.trans HK.out) (by first | rfl | decide | exact HK2.out.1.symm) ⟨by first | (rw [HK2.out.2]; omega) | (show (80 : Int) ≤ _; omega) | (show (120 : Int) ≤ _; omega), by omega⟩ ⟨mas1, mas2⟩ ⟨b0, b1⟩ ⟨gds1, gds2⟩ HD.out)
    have LF := Lib.hid (L4.out.put ⟨t, len, 4, mas, mas * u / 4, gds, gen, dst⟩)
    have VF := Lib.hid (V4.out.put (x := ⟨t, len, 4, mas, mas * u / 4, gds, gen, dst⟩) (b := r) (by rw [HR.out]; exact Nat.le_refl _))
    have KF := Lib.hid ((((((((K4.out.setCell (p := ⟨r, 0, none⟩) hmr (.string t)).setCell (p := ⟨r, 1, none⟩) hmr (.int .i64 (len))).setCell (p := ⟨r, 2, none⟩) hmr (.int .i64 4)).setCell (p := ⟨r, 3, none⟩) hmr (.int .i64 mas)).setCell (p := ⟨r, 4, none⟩) hmr (.int .i64 (mas * u / 4))).setCell (p := ⟨r, 5, none⟩) hmr (.int .i64 gds)).setCell (p := ⟨r, 6, none⟩) hmr (.bool gen)).setCell (p := ⟨r, 7, none⟩) hmr (.string dst))
    clear d0 d1 d2 d3 d4 d5 d6 d7 e0 e1 e2 e3 e4 e5 e6 e7 fe
    refine bodyPost_ret (results_rec (R := WR) rfl Try.underlying30 rfl infoW _ _ r ⟨t, len, 4, mas, mas * u / 4, gds, gen, dst⟩ rfl LF.out.blk) rfl ?_
    exact ⟨⟨t, len, 4, mas, mas * u / 4, gds, gen, dst⟩, rfl, X.out, KF.out, VF.out⟩
end Go.Proofs.Ytgiodpepjajlmaa
