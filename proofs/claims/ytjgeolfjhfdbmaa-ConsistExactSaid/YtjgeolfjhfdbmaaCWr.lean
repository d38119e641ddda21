/-
  Stage 6: the law's writes.
-/
import Derived.Test.YtjgeolfjhfdbmaaCRenc
import Derived.Test.YtjgeolfjhfdbmaaCTot
import Derived.Test.YtjgeolfjhfdbmaaCRvalid
import Derived.Test.YtjgeolfjhfdbmaaCValid
import Derived.Test.YtjgeolfjhfdbmaaSame
import Derived.Deep.RegionHeld3
set_option linter.unusedSimpArgs false
set_option linter.unusedVariables false
namespace Go.Proofs.Ytjgeolfjhfdbmaa
open Go.RowKit

set_option maxRecDepth 100000 in
set_option maxHeartbeats 3200000 in
theorem writes_any (l : List Wag) (A : Option Addr) (c : Nat) (w : World) (h : RRow WR w A l) (hz : Sz l) :
    Calls Try.prog 9 #[.slice A l.length c] w fun e w' => e = .returned (.bool true) ∧ Below w.heap.size w w' := by
  have hl : l.length ≤ 9223372036854775807 := h.len
  have H := Lib.hid h
  have HZ := Lib.hid hz
  clear h hz
  go_enter Try.func9, Try.ntmps9
  go_wp2_with fail
  refine (penc_any l A c w H.out).mono ?_
  rintro e w1 ⟨v1, rfl, O1, B1⟩
  have HO1 := Lib.hid O1
  have HB1 := Lib.hid B1
  have H1 := Lib.hid (H.out.below B1)
  obtain ⟨er, her⟩ : ∃ e, e = (encR l).2 := ⟨_, rfl⟩
  have HER := Lib.hid her
  rw [← her]
  clear O1 B1 her
  go_wp2_with fail
  refine (renc_any l A c w1 H1.out HZ.out).mono ?_
  rintro e w2 ⟨v2, rfl, O2, B2⟩
  rw [← HER.out]
  have HO2 := Lib.hid (O2.base HB1.out.size)
  have HO1' := Lib.hid (HO1.out.below B2)
  have HB2 := Lib.hid (HB1.out.trans (B2.mono HB1.out.size))
  have H2 := Lib.hid (H1.out.below B2)
  clear O2 B2 HO1 HB1 H1
  obtain ⟨⟨t1, t2, t3, t4⟩, ht⟩ : ∃ t, t = totR l := ⟨_, rfl⟩
  have HT := Lib.hid ht
  clear ht
  have p1 := ptot_any l A c w2 H2.out
  unfold TotPost at p1
  rw [← HT.out] at p1
  go_wp2_with fail
  refine p1.mono ?_
  rintro e w3 ⟨rfl, B3⟩
  clear p1
  have HO2' := Lib.hid (HO2.out.below B3)
  have HO1 := Lib.hid (HO1'.out.below B3)
  have HB3 := Lib.hid (HB2.out.trans (B3.mono HB2.out.size))
  have H3 := Lib.hid (H2.out.below B3)
  clear B3 HO2 HO1' HB2 H2
  have p1 := rtot_any l A c w3 H3.out HZ.out
  unfold TotPost at p1
  rw [← HT.out] at p1
  go_wp2_with fail
  refine p1.mono ?_
  rintro e w4 ⟨rfl, B4⟩
  clear p1
  have HO2 := Lib.hid (HO2'.out.below B4)
  have HO1' := Lib.hid (HO1.out.below B4)
  have HB4 := Lib.hid (HB3.out.trans (B4.mono HB3.out.size))
  have H4 := Lib.hid (H3.out.below B4)
  clear B4 HO2' HO1 HB3 H3
  obtain ⟨L, hL⟩ : ∃ n, n = l.length := ⟨_, rfl⟩
  have HL := Lib.hid hL
  rw [← hL] at hl ⊢
  clear hL
  go_wp2_with fail
  go_loopw [15] (fun i wr => ∃ k : Nat, k ≤ L ∧ i = .int .i64 k ∧ Hid (Below w4.heap.size w4 wr)) (fun i _ => L - (intOf i).toNat)
  case atStart => exact ⟨0, by omega, rfl, Lib.hid (Below.refl _ _)⟩
  case round =>
    obtain ⟨k, hk, rfl, B⟩ := hrel
    by_cases hlt : k < L
    · obtain ⟨x, hx⟩ : ∃ x, l[k]? = some x := ⟨_, List.getElem?_eq_getElem (by rw [← HL.out]; exact hlt)⟩
      obtain ⟨ad, rfl, C⟩ := (H4.out.below B.out).at_ hx
      have HC := Lib.hid C
      have HSX := Lib.hid (HZ.out x (List.mem_of_getElem? hx))
      obtain ⟨c0, c1, c2, c3, c4, c5, c6, c7⟩ := WSpelt.of C
      have KP := Lib.hid (fun (W : World) (hb : Below wr.heap.size wr W) => (show W.cell? (ad.add (k * 8)) = some (.string x.num) ∧ W.cell? ⟨(ad.add (k * 8)).block, (ad.add (k * 8)).off + 1, none⟩ = some (.int .i64 x.len) ∧ W.cell? ⟨(ad.add (k * 8)).block, (ad.add (k * 8)).off + 2, none⟩ = some (.int .i64 x.axl) ∧ W.cell? ⟨(ad.add (k * 8)).block, (ad.add (k * 8)).off + 3, none⟩ = some (.int .i64 x.mas) ∧ W.cell? ⟨(ad.add (k * 8)).block, (ad.add (k * 8)).off + 4, none⟩ = some (.int .i64 x.brk) ∧ W.cell? ⟨(ad.add (k * 8)).block, (ad.add (k * 8)).off + 5, none⟩ = some (.int .i64 x.gds) ∧ W.cell? ⟨(ad.add (k * 8)).block, (ad.add (k * 8)).off + 6, none⟩ = some (.bool x.gen) ∧ W.cell? ⟨(ad.add (k * 8)).block, (ad.add (k * 8)).off + 7, none⟩ = some (.string x.dst) from by
        obtain ⟨c0, c1, c2, c3, c4, c5, c6, c7⟩ := WSpelt.of (HC.out.below hb)
        exact ⟨c0, c1, c2, c3, c4, c5, c6, c7⟩))
      have b1 : Below wr.heap.size wr wr.drew := ⟨rfl, rfl, rfl, Nat.le_refl _, fun _ _ => rfl⟩
      have HB1 := Lib.hid b1
      clear C hx b1
      go_upto_region 8 with fail
      go_region_held3 (fun W => W.cell? (ad.add (k * 8)) = some (.string x.num) ∧ W.cell? ⟨(ad.add (k * 8)).block, (ad.add (k * 8)).off + 1, none⟩ = some (.int .i64 x.len) ∧ W.cell? ⟨(ad.add (k * 8)).block, (ad.add (k * 8)).off + 2, none⟩ = some (.int .i64 x.axl) ∧ W.cell? ⟨(ad.add (k * 8)).block, (ad.add (k * 8)).off + 3, none⟩ = some (.int .i64 x.mas) ∧ W.cell? ⟨(ad.add (k * 8)).block, (ad.add (k * 8)).off + 4, none⟩ = some (.int .i64 x.brk) ∧ W.cell? ⟨(ad.add (k * 8)).block, (ad.add (k * 8)).off + 5, none⟩ = some (.int .i64 x.gds) ∧ W.cell? ⟨(ad.add (k * 8)).block, (ad.add (k * 8)).off + 6, none⟩ = some (.bool x.gen) ∧ W.cell? ⟨(ad.add (k * 8)).block, (ad.add (k * 8)).off + 7, none⟩ = some (.string x.dst))
        (first | exact KP.out _ ⟨rfl, rfl, rfl, Nat.le_refl _, fun _ _ => rfl⟩ | exact KP.out _ (HB1.out.trans kb) | exact KP.out _ ((HB1.out.trans kb).trans (kd.mono (HB1.out.trans kb).size)))
        (first | (go_at_call 22; refine (cvalid_any x _).mono ?_; rintro e wh ⟨rfl, kb⟩) | (go_at_call 23; refine (crvalid_any x _ HSX.out).mono ?_; rintro e wi ⟨rfl, kd⟩))
      all_goals
        clear c0 c1 c2 c3 c4 c5 c6 c7
        have HKB := Lib.hid (show Below wr.heap.size wr wh from HB1.out.trans kb)
        have HKD := Lib.hid (show Below wr.heap.size wr wi from HKB.out.trans (kd.mono HKB.out.size))
        clear kb kd
        go_wp2_with fail
        go_roundw
        case rel => exact ⟨k + 1, by omega, by go_num, Lib.hid (B.out.trans (HKD.out.mono B.out.size))⟩
        case measure => simp [intOf]; omega
    · obtain rfl : k = L := by omega
      have HBF := Lib.hid (HB4.out.trans (B.out.mono HB4.out.size))
      obtain ⟨A1, k1, rfl, R1, _, m1, _⟩ := Own.slice (HO1'.out.below B.out)
      obtain ⟨A2, k2, rfl, R2, _⟩ := Own.slice (HO2.out.below B.out)
      have HSM := Lib.hid (bytes_same _ A1 A2 k1 k2 wr R1 R2 m1)
      clear hlt hk R1 R2 m1
      go_wp2_with fail
      refine HSM.out.mono ?_
      rintro e w' ⟨rfl, n, rfl⟩
      go_wp2_with fail
      go_ret
      exact ⟨rfl, bdn (n := n) HBF.out⟩
end Go.Proofs.Ytjgeolfjhfdbmaa
