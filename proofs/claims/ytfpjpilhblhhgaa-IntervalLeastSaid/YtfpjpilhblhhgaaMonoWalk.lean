/-
  The walk of IntervalMonotone: whatever the list, the law returns true and leaves old memory as it was.
-/
import Derived.Test.YtfpjpilhblhhgaaContWalk
import Derived.Test.YtfpjpilhblhhgaaSetsWalk
set_option linter.unusedSimpArgs false
set_option linter.unusedVariables false
namespace Go.Proofs.Ytfpjpilhblhhgaa
open Go.RowKit

/-- Block b may be written. -/
structure Frz (w : World) (b : Nat) : Prop where
  f0 : w.frozen? ⟨b, 0, none⟩ = false
  f1 : w.frozen? ⟨b, 1, none⟩ = false
  lt : b < w.heap.size
theorem Frz.below {w w' : World} {b : Nat} (h : Frz w b) (k : Below w.heap.size w w') : Frz w' b :=
  ⟨(k.frozen (p := ⟨b, 0, none⟩) h.lt).trans h.f0, (k.frozen (p := ⟨b, 1, none⟩) h.lt).trans h.f1, Nat.lt_of_lt_of_le h.lt k.size⟩
theorem Frz.moves {w w' : World} {m b : Nat} (h : Frz w b) (k : Moves m w w') (hm : b ≠ m) : Frz w' b :=
  ⟨(k.frozen (p := ⟨b, 0, none⟩) h.lt hm).trans h.f0, (k.frozen (p := ⟨b, 1, none⟩) h.lt hm).trans h.f1, Nat.lt_of_lt_of_le h.lt k.size⟩
theorem Frz.alloc {w : World} {b : Nat} (h : Frz w b) (o : Obj) : Frz (w.alloc o) b := h.below ((Below.refl _ _).alloc (Nat.le_refl _) _)
theorem Frz.new {w : World} {cs : Array Value} {T : TypeId} (b : Nat) (hb : b = w.heap.size) : Frz (w.alloc (.cells cs T)) b := by
  subst hb
  have e : (w.alloc (.cells cs T)).heap[w.heap.size]? = some (.cells cs T) := by
    show (w.heap.push _)[w.heap.size]? = _
    rw [Array.getElem?_push, if_pos rfl]
  exact ⟨by unfold World.frozen?; rw [e]; rfl, by unfold World.frozen?; rw [e]; rfl, by simp⟩
theorem Frz.put {w : World} {b c : Nat} {u v : Value} (h : Frz w b) : Frz ((w.setCell ⟨c, 0, none⟩ u).setCell ⟨c, 1, none⟩ v) b :=
  ⟨by rw [World.frozen?_setCell, World.frozen?_setCell]; exact h.f0, by rw [World.frozen?_setCell, World.frozen?_setCell]; exact h.f1, by rw [World.size_setCell, World.size_setCell]; exact h.lt⟩
theorem Loc.put_same {w : World} {b : Nat} {lo hi p q : Int} (h : Loc w b lo hi) : Loc ((w.setCell ⟨b, 0, none⟩ (.int .i64 p)).setCell ⟨b, 1, none⟩ (.int .i64 q)) b p q := by
  have g : (w.setCell ⟨b, 0, none⟩ (.int .i64 p)).cell? ⟨b, 1, none⟩ = some (.int .i64 hi) := by rw [World.cell?_setCell_other _ _ _ _ (by simp)]; exact h.c1
  refine ⟨?_, World.cell?_setCell_same _ _ _ g, by rw [World.size_setCell, World.size_setCell]; exact h.lt⟩
  rw [World.cell?_setCell_other _ _ _ _ (by simp)]
  exact World.cell?_setCell_same _ _ _ h.c0
theorem Loc.put_other {w : World} {b c : Nat} {lo hi : Int} {u v : Value} (h : Loc w b lo hi) (hc : c ≠ b) : Loc ((w.setCell ⟨c, 0, none⟩ u).setCell ⟨c, 1, none⟩ v) b lo hi := by
  have ne : ∀ i j, (⟨c, i, none⟩ : Addr) ≠ ⟨b, j, none⟩ := fun i j e => hc (congrArg Addr.block e)
  exact ⟨by rw [World.cell?_setCell_other _ _ _ _ (ne _ _), World.cell?_setCell_other _ _ _ _ (ne _ _)]; exact h.c0, by rw [World.cell?_setCell_other _ _ _ _ (ne _ _), World.cell?_setCell_other _ _ _ _ (ne _ _)]; exact h.c1, by rw [World.size_setCell, World.size_setCell]; exact h.lt⟩
theorem Rnd.put {w a : World} {N c : Nat} {u v : Value} (h : Rnd w a N) (hc : w.heap.size < c) : Rnd w ((a.setCell ⟨c, 0, none⟩ u).setCell ⟨c, 1, none⟩ v) N :=
  ⟨(h.mkr.setCell hc _).setCell hc _, (h.bel.setCell (Nat.le_of_lt hc) _).setCell (Nat.le_of_lt hc) _⟩

set_option maxRecDepth 100000 in
set_option maxHeartbeats 4000000 in
theorem mono_walk (t : Option Addr) (len cap : Nat) (zs : List Int) (w : World) (h : IsRow .i64 w t len cap zs) :
    Calls Try.prog 7 #[.slice t len cap] w fun e w' => e = .returned (.bool true) ∧ Below w.heap.size w w' := by
  have hR := fun T => Rnd.new (T := T) h
  have HR := Lib.hid hR
  clear hR h
  go_enter Try.func7, Try.ntmps7
  go_wp2_with fail
  refine (new_any _ _ _ _).mono ?_
  rintro e w1 ⟨rfl, rfl⟩
  go_wp2_with fail
  go_loopw [4] (fun i wr => ∃ k : Nat, k ≤ 5 ∧ i = .int .i64 k ∧ Rnd w wr (10 * k)) (fun i _ => 5 - (intOf i).toNat)
  case atStart => exact ⟨0, by omega, rfl, HR.out _⟩
  case round =>
    obtain ⟨k, hk, rfl, R0⟩ := hrel
    by_cases hlt : k < 5
    · go_wp2_with fail
      refine (mvalid_any _ _ _ R0.mkr (by omega)).mono ?_
      rintro e wa ⟨a, b, rfl, ⟨a1, a2, a3, a4⟩, k1, k2⟩
      have R1 := R0.step k2 k1
      clear R0 k1 k2
      go_wp2_with fail
      refine (mvalid_any _ _ _ R1.mkr (by omega)).mono ?_
      rintro e wb ⟨c, d, rfl, ⟨c1, c2, c3, c4⟩, k1, k2⟩
      have R2 := R1.step k2 k1
      clear R1 k1 k2
      have hg : w.heap.size < wb.heap.size := R2.lt
      go_wp2_with fail
      refine (from_any _ _ _ _ _ ((R2.alloc _).alloc _).mkr (by omega) (by omega) (by omega) (by omega)).mono ?_
      rintro e w3 ⟨p, rfl, p1, p2, k1, k2⟩
      have bs_wb : w.heap.size < wb.heap.size := R2.lt
      have R3 := ((R2.alloc _).alloc _).step k2 k1
      have X_3 : Loc w3 wb.heap.size a b := ((Loc.new _ rfl).alloc _).moves k2 (by omega)
      have Y_3 : Loc w3 (wb.heap.size + 1) c d := (Loc.new _ (by simp)).moves k2 (by omega)
      clear k1 k2 R2
      obtain ⟨X0, X1, Xl⟩ := X_3
      go_wp2_with fail
      refine (from_any _ _ _ _ _ R3.mkr (by omega) (by omega) (by omega) (by omega)).mono ?_
      rintro e w4 ⟨r, rfl, r1, r2, k1, k2⟩
      have R4 := R3.step k2 k1
      have X_4 : Loc w4 wb.heap.size a b := (⟨X0, X1, Xl⟩ : Loc _ _ _ _).moves k2 (by omega)
      have Y_4 : Loc w4 (wb.heap.size + 1) c d := Y_3.moves k2 (by omega)
      clear k1 k2 R3 X0 X1 Xl Y_3
      have V1 : vld a b = true := vld_mk (by omega)
      have V2 : vld c d = true := vld_mk (by omega)
      have V3 : vld p r = true := vld_mk (by omega)
      obtain ⟨M1, ml1, mh1⟩ := mul_facts a b c d V1 V2 (by omega) (by omega) (by omega) (by omega)
      obtain ⟨M2, ml2, mh2⟩ := mul_facts p r c d V3 V2 (by omega) (by omega) (by omega) (by omega)
      have S1 := sub_facts c d a b V2 V1 (by omega) (by omega) (by omega) (by omega)
      have S2 := sub_facts c d p r V2 V3 (by omega) (by omega) (by omega) (by omega)
      have mp := mul_part a b c d p r p1 r1 r2 c3
      have W1 : wth p r a b = true := wth_mk (by omega) (by omega) (by omega) (by omega) (by omega)
      have W2 : wth (min4 (p * c) (p * d) (r * c) (r * d)) (max4 (p * c) (p * d) (r * c) (r * d)) (min4 (a * c) (a * d) (b * c) (b * d)) (max4 (a * c) (a * d) (b * c) (b * d)) = true := wth_mk (by omega) (by omega) (by omega) (by omega) (by omega)
      have W3 : wth (c - r) (d - p) (c - b) (d - a) = true := wth_mk (by omega) (by omega) (by omega) (by omega) (by omega)
      generalize min4 (a * c) (a * d) (b * c) (b * d) = s at *
      generalize max4 (a * c) (a * d) (b * c) (b * d) = s' at *
      generalize min4 (p * c) (p * d) (r * c) (r * d) = t1 at *
      generalize max4 (p * c) (p * d) (r * c) (r * d) = t1' at *
      have HM1 := Lib.hid M1
      have HM2 := Lib.hid M2
      have HS1 := Lib.hid S1
      have HS2 := Lib.hid S2
      have HW1 := Lib.hid W1
      have HW2 := Lib.hid W2
      have HW3 := Lib.hid W3
      have HV1 := Lib.hid V1
      have HV2 := Lib.hid V2
      have HV3 := Lib.hid V3
      clear M1 M2 S1 S2 W1 W2 W3 V1 V2 V3 mp ml1 mh1 ml2 mh2
      obtain ⟨X0, X1, Xl⟩ := X_4
      obtain ⟨Y0, Y1, Yl⟩ := Y_4
      go_wp2_with fail
      refine (mul_eq _ _ _ _ s s' 0 _ HM1.out).mono ?_
      rintro e w5 ⟨rfl, kb⟩
      have bs_w4 : w.heap.size < w4.heap.size := R4.lt
      have bl_w4 : (wb.heap.size + 1) < w4.heap.size := Loc.lt (⟨Y0, Y1, Yl⟩ : Loc _ _ _ _)
      have R5 := (R4.alloc _).below kb
      have X_5 : Loc w5 wb.heap.size a b := ((⟨X0, X1, Xl⟩ : Loc _ _ _ _).alloc _).below kb
      have Y_5 : Loc w5 (wb.heap.size + 1) c d := ((⟨Y0, Y1, Yl⟩ : Loc _ _ _ _).alloc _).below kb
      have Z_5 : Loc w5 w4.heap.size p r := (Loc.new _ rfl).below kb
      clear kb R4 X0 X1 Xl Y0 Y1 Yl
      obtain ⟨Z0, Z1, Zl⟩ := Z_5
      obtain ⟨Y0, Y1, Yl⟩ := Y_5
      go_wp2_with fail
      refine (mul_eq _ _ _ _ t1 t1' 0 _ HM2.out).mono ?_
      rintro e w6 ⟨rfl, kb⟩
      have bs_w5 : w.heap.size < w5.heap.size := R5.lt
      have bl_w5 : w4.heap.size < w5.heap.size := Loc.lt (⟨Z0, Z1, Zl⟩ : Loc _ _ _ _)
      have R6 := (R5.alloc _).below kb
      have X_6 : Loc w6 wb.heap.size a b := (X_5.alloc _).below kb
      have Y_6 : Loc w6 (wb.heap.size + 1) c d := ((⟨Y0, Y1, Yl⟩ : Loc _ _ _ _).alloc _).below kb
      have Z_6 : Loc w6 w4.heap.size p r := ((⟨Z0, Z1, Zl⟩ : Loc _ _ _ _).alloc _).below kb
      have A_6 : Loc w6 w5.heap.size s s' := (Loc.new _ rfl).below kb
      have AF_6 : Frz w6 w5.heap.size := (Frz.new _ rfl).below kb
      clear kb R5 X_5 Y0 Y1 Yl Z0 Z1 Zl
      obtain ⟨X0, X1, Xl⟩ := X_6
      obtain ⟨Y0, Y1, Yl⟩ := Y_6
      go_wp2_with fail
      refine (sub_eq _ _ _ _ (c - b) (d - a) 0 _ HS1.out).mono ?_
      rintro e w7 ⟨rfl, kb⟩
      have bs_w6 : w.heap.size < w6.heap.size := R6.lt
      have bl_w6 : w5.heap.size < w6.heap.size := Loc.lt A_6
      have R7 := (R6.alloc _).below kb
      have X_7 : Loc w7 wb.heap.size a b := ((⟨X0, X1, Xl⟩ : Loc _ _ _ _).alloc _).below kb
      have Y_7 : Loc w7 (wb.heap.size + 1) c d := ((⟨Y0, Y1, Yl⟩ : Loc _ _ _ _).alloc _).below kb
      have Z_7 : Loc w7 w4.heap.size p r := (Z_6.alloc _).below kb
      have A_7 : Loc w7 w5.heap.size s s' := (A_6.alloc _).below kb
      have B_7 : Loc w7 w6.heap.size t1 t1' := (Loc.new _ rfl).below kb
      have AF_7 : Frz w7 w5.heap.size := (AF_6.alloc _).below kb
      have BF_7 : Frz w7 w6.heap.size := (Frz.new _ rfl).below kb
      clear kb AF_6 A_6 R6 X0 X1 Xl Y0 Y1 Yl Z_6
      obtain ⟨Z0, Z1, Zl⟩ := Z_7
      obtain ⟨Y0, Y1, Yl⟩ := Y_7
      go_wp2_with fail
      refine (sub_eq _ _ _ _ (c - r) (d - p) 0 _ HS2.out).mono ?_
      rintro e w8 ⟨rfl, kb⟩
      have bs_w7 : w.heap.size < w7.heap.size := R7.lt
      have bl_w7 : w6.heap.size < w7.heap.size := Loc.lt B_7
      have R8 := (R7.alloc _).below kb
      have X_8 : Loc w8 wb.heap.size a b := (X_7.alloc _).below kb
      have Y_8 : Loc w8 (wb.heap.size + 1) c d := ((⟨Y0, Y1, Yl⟩ : Loc _ _ _ _).alloc _).below kb
      have Z_8 : Loc w8 w4.heap.size p r := ((⟨Z0, Z1, Zl⟩ : Loc _ _ _ _).alloc _).below kb
      have A_8 : Loc w8 w5.heap.size s s' := (A_7.alloc _).below kb
      have B_8 : Loc w8 w6.heap.size t1 t1' := (B_7.alloc _).below kb
      have C_8 : Loc w8 w7.heap.size (c - b) (d - a) := (Loc.new _ rfl).below kb
      have AF_8 : Frz w8 w5.heap.size := (AF_7.alloc _).below kb
      have BF_8 : Frz w8 w6.heap.size := (BF_7.alloc _).below kb
      have CF_8 : Frz w8 w7.heap.size := (Frz.new _ rfl).below kb
      clear kb AF_7 A_7 BF_7 B_7 R7 X_7 Y0 Y1 Yl Z0 Z1 Zl
      obtain ⟨Z0, Z1, Zl⟩ := Z_8
      obtain ⟨X0, X1, Xl⟩ := X_8
      go_wp2_with fail
      refine (within_any _ _ _ _ _).mono ?_
      rintro e w9 ⟨rfl, kb⟩
      rw [HW1.out]
      have bs_w8 : w.heap.size < w8.heap.size := R8.lt
      have bl_w8 : w7.heap.size < w8.heap.size := Loc.lt C_8
      have R9 := (R8.alloc _).below kb
      have X_9 : Loc w9 wb.heap.size a b := ((⟨X0, X1, Xl⟩ : Loc _ _ _ _).alloc _).below kb
      have Y_9 : Loc w9 (wb.heap.size + 1) c d := (Y_8.alloc _).below kb
      have Z_9 : Loc w9 w4.heap.size p r := ((⟨Z0, Z1, Zl⟩ : Loc _ _ _ _).alloc _).below kb
      have A_9 : Loc w9 w5.heap.size s s' := (A_8.alloc _).below kb
      have B_9 : Loc w9 w6.heap.size t1 t1' := (B_8.alloc _).below kb
      have C_9 : Loc w9 w7.heap.size (c - b) (d - a) := (C_8.alloc _).below kb
      have D_9 : Loc w9 w8.heap.size (c - r) (d - p) := (Loc.new _ rfl).below kb
      have AF_9 : Frz w9 w5.heap.size := (AF_8.alloc _).below kb
      have BF_9 : Frz w9 w6.heap.size := (BF_8.alloc _).below kb
      have CF_9 : Frz w9 w7.heap.size := (CF_8.alloc _).below kb
      clear kb AF_8 A_8 BF_8 B_8 CF_8 C_8 R8 X0 X1 Xl Y_8 Z0 Z1 Zl
      obtain ⟨A0, A1, Al⟩ := A_9
      obtain ⟨B0, B1, Bl⟩ := B_9
      go_wp2_with fail
      refine (within_any _ _ _ _ _).mono ?_
      rintro e wA ⟨rfl, kb⟩
      rw [HW2.out]
      have R10 := R9.below kb
      have X_10 : Loc wA wb.heap.size a b := X_9.below kb
      have Y_10 : Loc wA (wb.heap.size + 1) c d := Y_9.below kb
      have Z_10 : Loc wA w4.heap.size p r := Z_9.below kb
      have A_10 : Loc wA w5.heap.size s s' := (⟨A0, A1, Al⟩ : Loc _ _ _ _).below kb
      have B_10 : Loc wA w6.heap.size t1 t1' := (⟨B0, B1, Bl⟩ : Loc _ _ _ _).below kb
      have C_10 : Loc wA w7.heap.size (c - b) (d - a) := C_9.below kb
      have D_10 : Loc wA w8.heap.size (c - r) (d - p) := D_9.below kb
      have AF_10 : Frz wA w5.heap.size := AF_9.below kb
      have BF_10 : Frz wA w6.heap.size := BF_9.below kb
      have CF_10 : Frz wA w7.heap.size := CF_9.below kb
      clear kb A0 A1 AF_9 Al B0 B1 BF_9 Bl CF_9 C_9 D_9 R9 X_9 Y_9 Z_9
      obtain ⟨C0, C1, Cl⟩ := C_10
      obtain ⟨D0, D1, Dl⟩ := D_10
      go_wp2_with fail
      refine (within_any _ _ _ _ _).mono ?_
      rintro e wB ⟨rfl, kb⟩
      rw [HW3.out]
      have R11 := R10.below kb
      have X_11 : Loc wB wb.heap.size a b := X_10.below kb
      have Y_11 : Loc wB (wb.heap.size + 1) c d := Y_10.below kb
      have Z_11 : Loc wB w4.heap.size p r := Z_10.below kb
      have A_11 : Loc wB w5.heap.size s s' := A_10.below kb
      have B_11 : Loc wB w6.heap.size t1 t1' := B_10.below kb
      have C_11 : Loc wB w7.heap.size (c - b) (d - a) := (⟨C0, C1, Cl⟩ : Loc _ _ _ _).below kb
      have AF_11 : Frz wB w5.heap.size := AF_10.below kb
      have BF_11 : Frz wB w6.heap.size := BF_10.below kb
      have CF_11 : Frz wB w7.heap.size := CF_10.below kb
      clear kb AF_10 A_10 BF_10 B_10 C0 C1 CF_10 Cl D0 D1 Dl R10 X_10 Y_10 Z_10
      go_wp2_with fail
      refine (from_any _ _ _ _ _ R11.mkr (by omega) (by omega) (by omega) (by omega)).mono ?_
      rintro e wC ⟨u, rfl, u1, u2, k1, k2⟩
      have R12 := R11.step k2 k1
      have X_12 : Loc wC wb.heap.size a b := X_11.moves k2 (by omega)
      have Y_12 : Loc wC (wb.heap.size + 1) c d := Y_11.moves k2 (by omega)
      have Z_12 : Loc wC w4.heap.size p r := Z_11.moves k2 (by omega)
      have A_12 : Loc wC w5.heap.size s s' := A_11.moves k2 (by omega)
      have B_12 : Loc wC w6.heap.size t1 t1' := B_11.moves k2 (by omega)
      have C_12 : Loc wC w7.heap.size (c - b) (d - a) := C_11.moves k2 (by omega)
      have AF_12 : Frz wC w5.heap.size := AF_11.moves k2 (by omega)
      have BF_12 : Frz wC w6.heap.size := BF_11.moves k2 (by omega)
      have CF_12 : Frz wC w7.heap.size := CF_11.moves k2 (by omega)
      clear k1 k2 AF_11 A_11 BF_11 B_11 CF_11 C_11 R11 X_11 Y_11 Z_11
      have ls := R12.lt
      go_wp2_with fail
      refine (pick_any _ _ (fun v => v = 1 ∨ v = 2 ∨ v = 3 ∨ v = 5 ∨ v = 7 ∨ v = -3 ∨ v = -4) _ 4 4 _ (R12.alloc _).mkr (by omega) (by omega) (by omega) (by omega) (by simp) (by exact new_pick _ _ _ [1, 2, -3, 5] (by decide) _ (by simp))).mono ?_
      rintro e wD ⟨v, rfl, v1, k1, k2⟩
      have R13 := (R12.alloc _).step k2 k1
      have X_13 : Loc wD wb.heap.size a b := (X_12.alloc _).moves k2 (by omega)
      have Y_13 : Loc wD (wb.heap.size + 1) c d := (Y_12.alloc _).moves k2 (by omega)
      have Z_13 : Loc wD w4.heap.size p r := (Z_12.alloc _).moves k2 (by omega)
      have A_13 : Loc wD w5.heap.size s s' := (A_12.alloc _).moves k2 (by omega)
      have B_13 : Loc wD w6.heap.size t1 t1' := (B_12.alloc _).moves k2 (by omega)
      have C_13 : Loc wD w7.heap.size (c - b) (d - a) := (C_12.alloc _).moves k2 (by omega)
      have AF_13 : Frz wD w5.heap.size := (AF_12.alloc _).moves k2 (by omega)
      have BF_13 : Frz wD w6.heap.size := (BF_12.alloc _).moves k2 (by omega)
      have CF_13 : Frz wD w7.heap.size := (CF_12.alloc _).moves k2 (by omega)
      clear k1 k2 AF_12 A_12 BF_12 B_12 CF_12 C_12 R12 X_12 Y_12 Z_12
      obtain ⟨x, x', HF, _, _, _⟩ := scale_facts a b u v HV1.out (by omega) (by omega) (by omega) (by omega) v1
      obtain ⟨z, z', HG, _, _, _⟩ := scale_facts p r u v HV3.out (by omega) (by omega) (by omega) (by omega) v1
      have W4 := scale_part a b p r u v x x' z z' HV1.out (by omega) (by omega) p1 r1 r2 (by omega) (by omega) v1 HF HG
      obtain ⟨hp, hq, HH, _, _, hp1, hq1⟩ := hull_facts a b c d HV1.out HV2.out
      have hh : hp ≤ a ∧ hp ≤ c ∧ b ≤ hq ∧ d ≤ hq := by unfold hullR at HH; rw [two_t HV1.out HV2.out] at HH; simp only [Prod.mk.injEq] at HH; omega
      have W5 : wth a b hp hq = true := wth_mk (by omega) (by omega) (by omega) (by omega) (by omega)
      have W6 : wth c d hp hq = true := wth_mk (by omega) (by omega) (by omega) (by omega) (by omega)
      have KHF := Lib.hid HF
      have KHG := Lib.hid HG
      have KHH := Lib.hid HH
      have KW4 := Lib.hid W4
      have KW5 := Lib.hid W5
      have KW6 := Lib.hid W6
      clear HF HG HH W4 W5 W6 v1 hh hp1 hq1
      obtain ⟨X0, X1, Xl⟩ := X_13
      go_wp2_with fail
      refine (scale_eq _ _ _ _ x x' 0 _ KHF.out).mono ?_
      rintro e wE ⟨rfl, kb⟩
      have R14 := R13.below kb
      have X_14 : Loc wE wb.heap.size a b := (⟨X0, X1, Xl⟩ : Loc _ _ _ _).below kb
      have Y_14 : Loc wE (wb.heap.size + 1) c d := Y_13.below kb
      have Z_14 : Loc wE w4.heap.size p r := Z_13.below kb
      have A_14 : Loc wE w5.heap.size s s' := A_13.below kb
      have B_14 : Loc wE w6.heap.size t1 t1' := B_13.below kb
      have C_14 : Loc wE w7.heap.size (c - b) (d - a) := C_13.below kb
      have AF_14 : Frz wE w5.heap.size := AF_13.below kb
      have BF_14 : Frz wE w6.heap.size := BF_13.below kb
      have CF_14 : Frz wE w7.heap.size := CF_13.below kb
      clear kb AF_13 A_13 BF_13 B_13 CF_13 C_13 R13 X0 X1 Xl Y_13 Z_13
      obtain ⟨Z0, Z1, Zl⟩ := Z_14
      obtain ⟨A0, A1, Al⟩ := A_14
      obtain ⟨Af0, Af1, Afl⟩ := AF_14
      go_wp2_with fail
      refine (scale_eq _ _ _ _ z z' 0 _ KHG.out).mono ?_
      rintro e wF ⟨rfl, kb⟩
      have R15 := (R14.put (by omega)).below kb
      have X_15 : Loc wF wb.heap.size a b := (X_14.put_other (by omega)).below kb
      have Y_15 : Loc wF (wb.heap.size + 1) c d := (Y_14.put_other (by omega)).below kb
      have A_15 : Loc wF w5.heap.size x x' := ((⟨A0, A1, Al⟩ : Loc _ _ _ _).put_same).below kb
      have B_15 : Loc wF w6.heap.size t1 t1' := (B_14.put_other (by omega)).below kb
      have C_15 : Loc wF w7.heap.size (c - b) (d - a) := (C_14.put_other (by omega)).below kb
      have AF_15 : Frz wF w5.heap.size := ((⟨Af0, Af1, Afl⟩ : Frz _ _).put).below kb
      have BF_15 : Frz wF w6.heap.size := (BF_14.put).below kb
      have CF_15 : Frz wF w7.heap.size := (CF_14.put).below kb
      clear kb A0 A1 Af0 Af1 Afl Al BF_14 B_14 CF_14 C_14 R14 X_14 Y_14 Z0 Z1 Zl
      obtain ⟨X0, X1, Xl⟩ := X_15
      obtain ⟨Y0, Y1, Yl⟩ := Y_15
      obtain ⟨B0, B1, Bl⟩ := B_15
      obtain ⟨Bf0, Bf1, Bfl⟩ := BF_15
      go_wp2_with fail
      refine (hull_ok _ _ _ _ hp hq 0 _ KHH.out).mono ?_
      rintro e wG ⟨rfl, kb⟩
      have R16 := (R15.put (by omega)).below kb
      have X_16 : Loc wG wb.heap.size a b := ((⟨X0, X1, Xl⟩ : Loc _ _ _ _).put_other (by omega)).below kb
      have Y_16 : Loc wG (wb.heap.size + 1) c d := ((⟨Y0, Y1, Yl⟩ : Loc _ _ _ _).put_other (by omega)).below kb
      have A_16 : Loc wG w5.heap.size x x' := (A_15.put_other (by omega)).below kb
      have B_16 : Loc wG w6.heap.size z z' := ((⟨B0, B1, Bl⟩ : Loc _ _ _ _).put_same).below kb
      have C_16 : Loc wG w7.heap.size (c - b) (d - a) := (C_15.put_other (by omega)).below kb
      have AF_16 : Frz wG w5.heap.size := (AF_15.put).below kb
      have BF_16 : Frz wG w6.heap.size := ((⟨Bf0, Bf1, Bfl⟩ : Frz _ _).put).below kb
      have CF_16 : Frz wG w7.heap.size := (CF_15.put).below kb
      clear kb AF_15 A_15 B0 B1 Bf0 Bf1 Bfl Bl CF_15 C_15 R15 X0 X1 Xl Y0 Y1 Yl
      obtain ⟨A0, A1, Al⟩ := A_16
      obtain ⟨B0, B1, Bl⟩ := B_16
      obtain ⟨C0, C1, Cl⟩ := C_16
      obtain ⟨Cf0, Cf1, Cfl⟩ := CF_16
      go_wp2_with fail
      refine (within_any _ _ _ _ _).mono ?_
      rintro e wH ⟨rfl, kb⟩
      rw [KW4.out]
      have R17 := (R16.put (by omega)).below kb
      have X_17 : Loc wH wb.heap.size a b := (X_16.put_other (by omega)).below kb
      have Y_17 : Loc wH (wb.heap.size + 1) c d := (Y_16.put_other (by omega)).below kb
      have C_17 : Loc wH w7.heap.size hp hq := ((⟨C0, C1, Cl⟩ : Loc _ _ _ _).put_same).below kb
      have CF_17 : Frz wH w7.heap.size := ((⟨Cf0, Cf1, Cfl⟩ : Frz _ _).put).below kb
      clear kb A0 A1 AF_16 Al B0 B1 BF_16 Bl C0 C1 Cf0 Cf1 Cfl Cl R16 X_16 Y_16
      obtain ⟨X0, X1, Xl⟩ := X_17
      obtain ⟨C0, C1, Cl⟩ := C_17
      go_wp2_with fail
      refine (within_any _ _ _ _ _).mono ?_
      rintro e wI ⟨rfl, kb⟩
      rw [KW5.out]
      have R18 := R17.below kb
      have Y_18 : Loc wI (wb.heap.size + 1) c d := Y_17.below kb
      have C_18 : Loc wI w7.heap.size hp hq := (⟨C0, C1, Cl⟩ : Loc _ _ _ _).below kb
      have CF_18 : Frz wI w7.heap.size := CF_17.below kb
      clear kb C0 C1 CF_17 Cl R17 X0 X1 Xl Y_17
      obtain ⟨Y0, Y1, Yl⟩ := Y_18
      obtain ⟨C0, C1, Cl⟩ := C_18
      go_wp2_with fail
      refine (within_any _ _ _ _ _).mono ?_
      rintro e wJ ⟨rfl, kb⟩
      rw [KW6.out]
      have R19 := R18.below kb
      clear kb C0 C1 CF_18 Cl R18 Y0 Y1 Yl
      go_wp2_with fail
      go_roundw
      case rel => exact ⟨k + 1, by omega, by go_num, R19.more (by omega)⟩
      case measure => simp [intOf]; omega
    · go_wp2_with fail
      refine (sane_any _).mono ?_
      rintro e w2 ⟨rfl, kb⟩
      have R1 := R0.below kb
      go_wp2_with fail
      go_ret
      exact ⟨rfl, R1.bel⟩
end Go.Proofs.Ytfpjpilhblhhgaa
