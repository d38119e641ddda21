/-
  Stage 3: the walk of HammingExact.
-/
import Derived.Test.YtlfgmbdidjfcjaaDoorHRows
set_option linter.unusedSimpArgs false
set_option linter.unusedVariables false
namespace Go.Proofs.YtlfgmbdidjfcjaaDoor
open Go.RowKit

/-- What a round of the law carries. -/
structure Rnd3 (w wr : World) (b : Nat) (ys : List Int) : Prop where
  row : Row .i64 wr wr.heap.size (some ⟨b, 0, none⟩) ys
  bel : Below w.heap.size w wr
theorem Rnd3.step {w wr wx : World} {b : Nat} {ys : List Int} (h : Rnd3 w wr b ys) (B : Below wr.heap.size wr wx) : Rnd3 w wx b ys := ⟨h.row.below B, h.bel.trans (B.mono h.bel.size)⟩
theorem Rnd3.cell {w wr : World} {b : Nat} {ys : List Int} (h : Rnd3 w wr b ys) (k : Nat) (hk : k < ys.length) : wr.cell? ⟨b, k, none⟩ = some (.int .i64 (ys.getD k 0)) := by
  obtain ⟨ad, e, _, hc⟩ := h.row k hk
  injection e with e
  subst e
  rwa [add_own] at hc

set_option maxRecDepth 100000 in
set_option maxHeartbeats 3200000 in
theorem exact_walk (v u x : Int) (l : List Int) (A : Option Addr) (c : Nat) (bs : List Int) (A' : Option Addr) (c' : Nat) (w : World)
    (R : RowB .i64 w A l) (R' : RowB .u8 w A' bs) (hb : ∀ z ∈ bs, 0 ≤ z ∧ z ≤ 255) (D : Dat w) :
    Calls Tryd.prog 4 #[.int .i64 v, .int .i64 u, .int .i64 x, .slice A l.length c, .slice A' bs.length c'] w fun e w' => e = .returned (.bool true) ∧ Below w.heap.size w w' := by
  have hl1 : l.length ≤ 9223372036854775807 := R.2
  have hl2 : bs.length ≤ 9223372036854775807 := R'.2
  have HR := Lib.hid R
  have HR' := Lib.hid R'
  have HBD := Lib.hid hb
  have HD := Lib.hid D
  clear R R' hb D
  have t1 := tmod_bd v 2048 (by decide)
  have t2 := tmod_bd u 65536 (by decide)
  have t3 := tmod_bd x 65536 (by decide)
  go_enter Tryd.func4, Tryd.ntmps4
  go_wp2_with fail
  clear t1
  obtain ⟨p, hp⟩ : ∃ p, p = v.tmod 2048 % 2048 := ⟨_, rfl⟩
  have h43 : (v.tmod 2048 + 2048) % 2048 = p := by omega
  rw [← hp, h43]
  have RR : Rnd3 w (w.alloc (.cells #[.int .i64 v, .int .i64 p, .int .i64 u] 3)) w.heap.size [v, p, u] := ⟨row_new [v, p, u], (Below.refl _ _).alloc (Nat.le_refl _) _⟩
  clear hp h43
  obtain ⟨w1, e1⟩ : ∃ w1, w1 = w.alloc (.cells #[.int .i64 v, .int .i64 p, .int .i64 u] 3) := ⟨_, rfl⟩
  rw [← e1] at RR ⊢
  have HRR := Lib.hid RR
  clear e1 RR
  go_loopw [47] (fun i wr => ∃ k : Nat, k ≤ 3 ∧ i = .int .i64 k ∧ Hid (Rnd3 w wr w.heap.size [v, p, u])) (fun i _ => 3 - (intOf i).toNat)
  case atStart => exact ⟨0, by omega, rfl, HRR⟩
  case round =>
    clear HRR
    obtain ⟨k, hk, rfl, HRR⟩ := hrel
    by_cases hlt : k < 3
    · have hc := HRR.out.cell k hlt
      obtain ⟨z, hz⟩ : ∃ z, z = [v, p, u].getD k 0 := ⟨_, rfl⟩
      rw [← hz] at hc
      obtain ⟨⟨a, er⟩, ht⟩ : ∃ t, encR z = t := ⟨_, rfl⟩
      have HT := Lib.hid ht
      have D1 := Lib.hid (HD.out.below HRR.out.bel HD.out.lt)
      clear hz ht
      go_wp2_with fail
      refine (encode_at HT.out _ D1.out).mono ?_
      rintro e w' ⟨rfl, n, rfl⟩
      clear hc
      go_wp2_with fail
      refine (rencode_at HT.out _).mono ?_
      rintro e wx ⟨rfl, BX⟩
      have HX := Lib.hid BX
      clear BX
      go_wp2_with fail
      go_roundw
      case rel => exact ⟨k + 1, by omega, by go_num, HRR.out.step (below_drN HX.out)⟩
      case measure => simp [intOf]; omega
    · have B1 := Lib.hid HRR.out.bel
      have hlt3 : 3 ≤ k := by omega
      clear HRR hlt
      go_wp2_with fail
      clear t2 t3
      obtain ⟨q, hq⟩ : ∃ p, p = u.tmod 65536 % 65536 := ⟨_, rfl⟩
      obtain ⟨r, hr⟩ : ∃ p, p = x.tmod 65536 % 65536 := ⟨_, rfl⟩
      have h75 : (u.tmod 65536 + 65536) % 65536 = q := by omega
      have h79 : (x.tmod 65536 + 65536) % 65536 = r := by omega
      rw [← hq, ← hr, h75, h79]
      have RR : Rnd3 w (wr.alloc (.cells #[.int .i64 u, .int .i64 x, .int .i64 q, .int .i64 r] 3)) wr.heap.size [u, x, q, r] := ⟨row_new [u, x, q, r], B1.out.alloc B1.out.size _⟩
      clear hq hr h75 h79
      obtain ⟨w2, e2⟩ : ∃ w1, w1 = wr.alloc (.cells #[.int .i64 u, .int .i64 x, .int .i64 q, .int .i64 r] 3) := ⟨_, rfl⟩
      obtain ⟨b, eb⟩ : ∃ b, b = wr.heap.size := ⟨_, rfl⟩
      rw [← e2, ← eb] at RR
      rw [← e2]
      have HRR := Lib.hid RR
      have HEB := Lib.hid eb
      rw [← eb]
      clear e2 RR B1 eb
      go_loopw [82] (fun i wr => ∃ k : Nat, k ≤ 4 ∧ i = .int .i64 k ∧ Hid (Rnd3 w wr b [u, x, q, r])) (fun i _ => 4 - (intOf i).toNat)
      case atStart => exact ⟨0, by omega, rfl, HRR⟩
      case round =>
        clear HRR
        obtain ⟨k, hk, rfl, HRR⟩ := hrel
        by_cases hlt : k < 4
        · have hc := HRR.out.cell k hlt
          obtain ⟨z, hz⟩ : ∃ z, z = [u, x, q, r].getD k 0 := ⟨_, rfl⟩
          rw [← hz] at hc
          obtain ⟨⟨a, bt, er⟩, ht⟩ : ∃ t, decR z = t := ⟨_, rfl⟩
          obtain ⟨⟨d, er'⟩, hd⟩ : ∃ t, disR z u = t := ⟨_, rfl⟩
          have HT := Lib.hid ht
          have HDI := Lib.hid hd
          have D1 := Lib.hid (HD.out.below HRR.out.bel HD.out.lt)
          clear hz ht hd
          go_wp2_with fail
          refine (decode_at HT.out _ D1.out).mono ?_
          rintro e w' ⟨rfl, rfl⟩
          clear hc
          go_wp2_with fail
          refine (rdecode_at HT.out _).mono ?_
          rintro e wx ⟨rfl, BX⟩
          have HX := Lib.hid BX
          clear BX
          go_wp2_with fail
          refine (distance_at HDI.out _).mono ?_
          rintro e w' ⟨rfl, rfl⟩
          go_wp2_with fail
          refine (rdistance_at HDI.out _).mono ?_
          rintro e w' ⟨rfl, rfl⟩
          go_wp2_with fail
          go_roundw
          case rel => exact ⟨k + 1, by omega, by go_num, HRR.out.step HX.out⟩
          case measure => simp [intOf]; omega
        · obtain rfl : k = 4 := by omega
          have B2 := Lib.hid HRR.out.bel
          clear HRR hlt hk HEB
          by_cases hs : l.length ≤ 200 ∧ bs.length ≤ 400
          · obtain ⟨⟨pb, pe⟩, hp⟩ : ∃ t, packR l = t := ⟨_, rfl⟩
            obtain ⟨⟨ua, ub, ue⟩, hu⟩ : ∃ t, unpackR bs = t := ⟨_, rfl⟩
            have HP := Lib.hid hp
            have HU := Lib.hid hu
            obtain ⟨s1, s2⟩ := hs
            clear hp hu
            go_wp2_with fail
            refine (pack_row HP.out _ _ _ (HR.out.below (B2.out)) (HD.out.below B2.out HD.out.lt)).mono ?_
            rintro e w3 ⟨A1, c1, rfl, R1, B3⟩
            have HR1 := Lib.hid R1
            have HB3 := Lib.hid (B2.out.trans (B3.mono B2.out.size))
            clear R1 B3
            go_wp2_with fail
            refine (rpack_row HP.out _ _ _ (HR.out.below HB3.out)).mono ?_
            rintro e w4 ⟨A2, c2, rfl, R2, B4⟩
            have HR2 := Lib.hid R2
            have HR1' := Lib.hid (HR1.out.below B4)
            have HB4 := Lib.hid (HB3.out.trans (B4.mono HB3.out.size))
            clear R2 B4 HR1
            go_wp2_with fail
            refine (unpack_row HU.out _ _ _ (HR'.out.below HB4.out) HBD.out (HD.out.below HB4.out HD.out.lt)).mono ?_
            rintro e w5 ⟨A3, c3, A4, c4, rfl, R3, R4, B5⟩
            have HR3 := Lib.hid R3
            have HR4 := Lib.hid R4
            have HR1 := Lib.hid (HR1'.out.below B5)
            have HR2' := Lib.hid (HR2.out.below B5)
            have HB5 := Lib.hid (HB4.out.trans (B5.mono HB4.out.size))
            clear R3 R4 B5 HR2 HR1'
            go_wp2_with fail
            refine (runpack_row HU.out _ _ _ (HR'.out.below HB5.out) HBD.out).mono ?_
            rintro e w6 ⟨A5, c5, A6, c6, rfl, R5, R6, B6⟩
            have HR5 := Lib.hid R5
            have HR6 := Lib.hid R6
            have HR1' := Lib.hid (HR1.out.below B6)
            have HR2 := Lib.hid (HR2'.out.below B6)
            have HR3' := Lib.hid (HR3.out.below B6)
            have HR4' := Lib.hid (HR4.out.below B6)
            have HB6 := Lib.hid (HB5.out.trans (B6.mono HB5.out.size))
            clear R5 R6 B6 HR1 HR2' HR3 HR4
            go_wp2_with fail
            refine (bytes_same pb _ _ _ _ _ HR1'.out.1 HR2.out.1 HR2.out.2).mono ?_
            rintro e w' ⟨rfl, n1, rfl⟩
            go_wp2_with fail
            refine (ints_same ua _ _ _ _ _ (HR3'.out.drewN n1).1 (HR5.out.drewN n1).1 HR5.out.2).mono ?_
            rintro e w' ⟨rfl, n2, rfl⟩
            go_wp2_with fail
            refine (ints_same ub _ _ _ _ _ (HR4'.out.drewN (n1 + n2)).1 (HR6.out.drewN (n1 + n2)).1 HR6.out.2).mono ?_
            rintro e w' ⟨rfl, n3, rfl⟩
            go_wp2_with fail
            refine (sane_any _ ((HD.out.below HB6.out HD.out.lt).drewN _)).mono ?_
            rintro e w' ⟨rfl, n4, rfl⟩
            go_wp2_with fail
            go_ret
            exact ⟨rfl, bdn HB6.out⟩
          · by_cases s1 : l.length ≤ 200
            · have s2 : 400 < bs.length := by omega
              clear hs
              go_wp2_with fail
              refine (sane_any _ (HD.out.below B2.out HD.out.lt)).mono ?_
              rintro e w' ⟨rfl, n4, rfl⟩
              go_wp2_with fail
              go_ret
              exact ⟨rfl, bdn B2.out⟩
            · clear hs
              go_wp2_with fail
              refine (sane_any _ (HD.out.below B2.out HD.out.lt)).mono ?_
              rintro e w' ⟨rfl, n4, rfl⟩
              go_wp2_with fail
              go_ret
              exact ⟨rfl, bdn B2.out⟩
end Go.Proofs.YtlfgmbdidjfcjaaDoor
