/-
  The walk of IntervalLeast: whatever the list, the law returns true and leaves old memory as it was.
-/
import Derived.Test.YtfpjpilhblhhgaaMonoWalk
import Derived.BigRegion
set_option linter.unusedSimpArgs false
set_option linter.unusedVariables false
namespace Go.Proofs.Ytfpjpilhblhhgaa
open Go.RowKit

/-- Of the pairs before (n, m), row by row, each that f accepts has set l. -/
def Att (l : Bool) (a c d : Int) (f : Int → Int → Bool) (n m : Int) : Prop :=
  ∀ n' m', a ≤ n' → c ≤ m' → m' ≤ d → (n' < n ∨ (n' = n ∧ m' < m)) → f n' m' = true → l = true
theorem Att.start {l : Bool} {a c d : Int} {f : Int → Int → Bool} : Att l a c d f a c := fun n' m' h1 h2 _ h3 _ => by omega
theorem Att.step {l : Bool} {a c d n m : Int} {f : Int → Int → Bool} (h : Att l a c d f n m) : Att (l || f n m) a c d f n (m + 1) := fun n' m' h1 h2 h3 h4 h5 => by
  by_cases g : n' < n ∨ (n' = n ∧ m' < m)
  · rw [h n' m' h1 h2 h3 g h5]; rfl
  · have e1 : n' = n := by omega
    have e2 : m' = m := by omega
    subst e1 e2
    rw [h5]; simp
theorem Att.row {l : Bool} {a c d n m : Int} {f : Int → Int → Bool} (h : Att l a c d f n m) (hm : d < m) : Att l a c d f (n + 1) c := fun n' m' h1 h2 h3 h4 h5 =>
  h n' m' h1 h2 h3 (by omega) h5
theorem Att.done {l : Bool} {a c d n m : Int} {f : Int → Int → Bool} (h : Att l a c d f n m) (n' m' : Int) (h1 : a ≤ n') (h2 : n' < n) (h3 : c ≤ m') (h4 : m' ≤ d) (h5 : f n' m' = true) : l = true :=
  h n' m' h1 h3 h4 (Or.inl h2) h5

/-- Block b holds three bools, and may be written. -/
structure Bl (w : World) (b : Nat) (x y z : Bool) : Prop where
  c0 : w.cell? ⟨b, 0, none⟩ = some (.bool x)
  c1 : w.cell? ⟨b, 1, none⟩ = some (.bool y)
  c2 : w.cell? ⟨b, 2, none⟩ = some (.bool z)
  f0 : w.frozen? ⟨b, 0, none⟩ = false
  f1 : w.frozen? ⟨b, 1, none⟩ = false
  f2 : w.frozen? ⟨b, 2, none⟩ = false
  lt : b < w.heap.size
theorem Bl.below {w w' : World} {b : Nat} {x y z : Bool} (h : Bl w b x y z) (k : Below w.heap.size w w') : Bl w' b x y z :=
  ⟨(k.cell (p := ⟨b, 0, none⟩) h.lt).trans h.c0, (k.cell (p := ⟨b, 1, none⟩) h.lt).trans h.c1, (k.cell (p := ⟨b, 2, none⟩) h.lt).trans h.c2,
   (k.frozen (p := ⟨b, 0, none⟩) h.lt).trans h.f0, (k.frozen (p := ⟨b, 1, none⟩) h.lt).trans h.f1, (k.frozen (p := ⟨b, 2, none⟩) h.lt).trans h.f2, Nat.lt_of_lt_of_le h.lt k.size⟩
theorem Bl.alloc {w : World} {b : Nat} {x y z : Bool} (h : Bl w b x y z) (o : Obj) : Bl (w.alloc o) b x y z := h.below ((Below.refl _ _).alloc (Nat.le_refl _) _)
theorem Bl.drew {w : World} {b : Nat} {x y z : Bool} (h : Bl w b x y z) : Bl w.drew b x y z := h.below ⟨rfl, rfl, rfl, Nat.le_refl _, fun _ _ => rfl⟩
theorem Bl.new {w : World} {x y z : Bool} {T : TypeId} (b : Nat) (hb : b = w.heap.size) : Bl (w.alloc (.cells #[.bool x, .bool y, .bool z] T)) b x y z := by
  subst hb
  have e : (w.alloc (.cells #[.bool x, .bool y, .bool z] T)).heap[w.heap.size]? = some (.cells #[.bool x, .bool y, .bool z] T) := by
    show (w.heap.push _)[w.heap.size]? = _
    rw [Array.getElem?_push, if_pos rfl]
  exact ⟨by rw [cell_new]; rfl, by rw [cell_new]; rfl, by rw [cell_new]; rfl, by unfold World.frozen?; rw [e]; rfl, by unfold World.frozen?; rw [e]; rfl, by unfold World.frozen?; rw [e]; rfl, by simp⟩
theorem Bl.other {w : World} {b c i : Nat} {x y z : Bool} {v : Value} (h : Bl w b x y z) (hc : c ≠ b) : Bl (w.setCell ⟨c, i, none⟩ v) b x y z := by
  have ne : ∀ j, (⟨c, i, none⟩ : Addr) ≠ ⟨b, j, none⟩ := fun j e => hc (congrArg Addr.block e)
  exact ⟨by rw [World.cell?_setCell_other _ _ _ _ (ne _)]; exact h.c0, by rw [World.cell?_setCell_other _ _ _ _ (ne _)]; exact h.c1, by rw [World.cell?_setCell_other _ _ _ _ (ne _)]; exact h.c2,
    by rw [World.frozen?_setCell]; exact h.f0, by rw [World.frozen?_setCell]; exact h.f1, by rw [World.frozen?_setCell]; exact h.f2, by rw [World.size_setCell]; exact h.lt⟩
theorem Bl.set0 {w : World} {b : Nat} {x y z v : Bool} (h : Bl w b x y z) : Bl (w.setCell ⟨b, 0, none⟩ (.bool v)) b v y z :=
  ⟨World.cell?_setCell_same _ _ _ h.c0, by rw [World.cell?_setCell_other _ _ _ _ (by simp)]; exact h.c1, by rw [World.cell?_setCell_other _ _ _ _ (by simp)]; exact h.c2,
    by rw [World.frozen?_setCell]; exact h.f0, by rw [World.frozen?_setCell]; exact h.f1, by rw [World.frozen?_setCell]; exact h.f2, by rw [World.size_setCell]; exact h.lt⟩
theorem Bl.set1 {w : World} {b : Nat} {x y z v : Bool} (h : Bl w b x y z) : Bl (w.setCell ⟨b, 1, none⟩ (.bool v)) b x v z :=
  ⟨by rw [World.cell?_setCell_other _ _ _ _ (by simp)]; exact h.c0, World.cell?_setCell_same _ _ _ h.c1, by rw [World.cell?_setCell_other _ _ _ _ (by simp)]; exact h.c2,
    by rw [World.frozen?_setCell]; exact h.f0, by rw [World.frozen?_setCell]; exact h.f1, by rw [World.frozen?_setCell]; exact h.f2, by rw [World.size_setCell]; exact h.lt⟩
theorem Bl.set2 {w : World} {b : Nat} {x y z v : Bool} (h : Bl w b x y z) : Bl (w.setCell ⟨b, 2, none⟩ (.bool v)) b x y v :=
  ⟨by rw [World.cell?_setCell_other _ _ _ _ (by simp)]; exact h.c0, by rw [World.cell?_setCell_other _ _ _ _ (by simp)]; exact h.c1, World.cell?_setCell_same _ _ _ h.c2,
    by rw [World.frozen?_setCell]; exact h.f0, by rw [World.frozen?_setCell]; exact h.f1, by rw [World.frozen?_setCell]; exact h.f2, by rw [World.size_setCell]; exact h.lt⟩
theorem Loc.other {w : World} {b c i : Nat} {lo hi : Int} {v : Value} (h : Loc w b lo hi) (hc : c ≠ b) : Loc (w.setCell ⟨c, i, none⟩ v) b lo hi := by
  have ne : ∀ j, (⟨c, i, none⟩ : Addr) ≠ ⟨b, j, none⟩ := fun j e => hc (congrArg Addr.block e)
  exact ⟨by rw [World.cell?_setCell_other _ _ _ _ (ne _)]; exact h.c0, by rw [World.cell?_setCell_other _ _ _ _ (ne _)]; exact h.c1, by rw [World.size_setCell]; exact h.lt⟩
theorem Rnd.other {w a : World} {N c i : Nat} {v : Value} (h : Rnd w a N) (hc : w.heap.size < c) : Rnd w (a.setCell ⟨c, i, none⟩ v) N :=
  ⟨h.mkr.setCell hc _, h.bel.setCell (Nat.le_of_lt hc) _⟩

/-- The blocks' numbers. -/
structure Ns (w : World) (X Y A S M L H : Nat) : Prop where
  x : w.heap.size < X
  y : X < Y
  a : Y < A
  s : A < S
  m : S < M
  l : M < L
  h : L < H

/-- What holds at the head of each round. -/
structure St (w wr : World) (N X Y A S M L H : Nat) (a b c d a0 a1 s0 s1 m0 m1 : Int) (l0 l1 l2 h0 h1 h2 : Bool) : Prop where
  R : Rnd w wr N
  LX : Loc wr X a b
  LY : Loc wr Y c d
  LA : Loc wr A a0 a1
  LS : Loc wr S s0 s1
  LM : Loc wr M m0 m1
  BL : Bl wr L l0 l1 l2
  BH : Bl wr H h0 h1 h2
section
variable {w wr : World} {N X Y A S M L H : Nat} {a b c d a0 a1 s0 s1 m0 m1 : Int} {l0 l1 l2 h0 h1 h2 u v : Bool}
theorem St.drew (h : St w wr N X Y A S M L H a b c d a0 a1 s0 s1 m0 m1 l0 l1 l2 h0 h1 h2) : St w wr.drew N X Y A S M L H a b c d a0 a1 s0 s1 m0 m1 l0 l1 l2 h0 h1 h2 :=
  ⟨h.R.drew, h.LX.drew, h.LY.drew, h.LA.drew, h.LS.drew, h.LM.drew, h.BL.drew, h.BH.drew⟩
theorem St.set0 (h : St w wr N X Y A S M L H a b c d a0 a1 s0 s1 m0 m1 l0 l1 l2 h0 h1 h2) (k : Ns w X Y A S M L H) : St w ((wr.setCell ⟨L, 0, none⟩ (.bool u)).setCell ⟨H, 0, none⟩ (.bool v)) N X Y A S M L H a b c d a0 a1 s0 s1 m0 m1 u l1 l2 v h1 h2 := by
  obtain ⟨k1, k2, k3, k4, k5, k6, k7⟩ := k
  exact ⟨(h.R.other (by omega)).other (by omega), (h.LX.other (by omega)).other (by omega), (h.LY.other (by omega)).other (by omega), (h.LA.other (by omega)).other (by omega), (h.LS.other (by omega)).other (by omega), (h.LM.other (by omega)).other (by omega), h.BL.set0.other (by omega), (h.BH.other (by omega)).set0⟩
theorem St.set1 (h : St w wr N X Y A S M L H a b c d a0 a1 s0 s1 m0 m1 l0 l1 l2 h0 h1 h2) (k : Ns w X Y A S M L H) : St w ((wr.setCell ⟨L, 1, none⟩ (.bool u)).setCell ⟨H, 1, none⟩ (.bool v)) N X Y A S M L H a b c d a0 a1 s0 s1 m0 m1 l0 u l2 h0 v h2 := by
  obtain ⟨k1, k2, k3, k4, k5, k6, k7⟩ := k
  exact ⟨(h.R.other (by omega)).other (by omega), (h.LX.other (by omega)).other (by omega), (h.LY.other (by omega)).other (by omega), (h.LA.other (by omega)).other (by omega), (h.LS.other (by omega)).other (by omega), (h.LM.other (by omega)).other (by omega), h.BL.set1.other (by omega), (h.BH.other (by omega)).set1⟩
theorem St.set2 (h : St w wr N X Y A S M L H a b c d a0 a1 s0 s1 m0 m1 l0 l1 l2 h0 h1 h2) (k : Ns w X Y A S M L H) : St w ((wr.setCell ⟨L, 2, none⟩ (.bool u)).setCell ⟨H, 2, none⟩ (.bool v)) N X Y A S M L H a b c d a0 a1 s0 s1 m0 m1 l0 l1 u h0 h1 v := by
  obtain ⟨k1, k2, k3, k4, k5, k6, k7⟩ := k
  exact ⟨(h.R.other (by omega)).other (by omega), (h.LX.other (by omega)).other (by omega), (h.LY.other (by omega)).other (by omega), (h.LA.other (by omega)).other (by omega), (h.LS.other (by omega)).other (by omega), (h.LM.other (by omega)).other (by omega), h.BL.set2.other (by omega), (h.BH.other (by omega)).set2⟩
end

set_option maxRecDepth 100000 in
set_option maxHeartbeats 8000000 in
theorem least_walk (t : Option Addr) (len cap : Nat) (zs : List Int) (w : World) (h : IsRow .i64 w t len cap zs) :
    Calls Try.prog 6 #[.slice t len cap] w fun e w' => e = .returned (.bool true) ∧ Below w.heap.size w w' := by
  have hR := fun T => Rnd.new (T := T) h
  have HR := Lib.hid hR
  clear hR h
  go_enter Try.func6, Try.ntmps6
  go_wp2_with fail
  refine (new_any _ _ _ _).mono ?_
  rintro e w1 ⟨rfl, rfl⟩
  go_wp2_with fail
  have R0 := HR.out 48
  refine (mvalid_any _ _ _ R0.mkr (by omega)).mono ?_
  rintro e wa ⟨a, b, rfl, ⟨a1, a2, a3, a4⟩, k1, k2⟩
  have R1 := R0.step k2 k1
  clear R0 k1 k2
  go_wp2_with fail
  refine (mvalid_any _ _ _ R1.mkr (by omega)).mono ?_
  rintro e wb ⟨c, d, rfl, ⟨c1, c2, c3, c4⟩, k1, k2⟩
  have R2 := R1.step k2 k1
  clear R1 k1 k2 HR
  have hg : w.heap.size < wb.heap.size := R2.lt
  have V1 : vld a b = true := vld_mk (by omega)
  have V2 : vld c d = true := vld_mk (by omega)
  have A1 := add_facts a b c d V1 V2 (by omega) (by omega) (by omega) (by omega)
  have S1 := sub_facts a b c d V1 V2 (by omega) (by omega) (by omega) (by omega)
  obtain ⟨M1, ml1, mh1⟩ := mul_facts a b c d V1 V2 (by omega) (by omega) (by omega) (by omega)
  have HA := Lib.hid A1
  have HS := Lib.hid S1
  have HM := Lib.hid M1
  have E1 := Lib.hid (min4_eq (a * c) (a * d) (b * c) (b * d))
  have E2 := Lib.hid (max4_eq (a * c) (a * d) (b * c) (b * d))
  clear A1 S1 M1 V1 V2
  generalize min4 (a * c) (a * d) (b * c) (b * d) = mp at *
  generalize max4 (a * c) (a * d) (b * c) (b * d) = mq at *
  go_wp2_with fail
  refine (add_eq _ _ _ _ (a + c) (b + d) 0 _ HA.out).mono ?_
  rintro e w3 ⟨rfl, kb⟩
  have bs_wb : w.heap.size < wb.heap.size := R2.lt
  have R3 := ((R2.alloc _).alloc _).below kb
  have X_3 : Loc w3 wb.heap.size a b := ((Loc.new _ rfl).alloc _).below kb
  have Y_3 : Loc w3 (wb.heap.size + 1) c d := (Loc.new _ (by simp)).below kb
  clear kb R2
  obtain ⟨X0, X1, Xl⟩ := X_3
  obtain ⟨Y0, Y1, Yl⟩ := Y_3
  go_wp2_with fail
  refine (sub_eq _ _ _ _ (a - d) (b - c) 0 _ HS.out).mono ?_
  rintro e w4 ⟨rfl, kb⟩
  have bs_w3 : w.heap.size < w3.heap.size := R3.lt
  have bl_w3 : (wb.heap.size + 1) < w3.heap.size := Loc.lt (⟨Y0, Y1, Yl⟩ : Loc _ _ _ _)
  have R4 := (R3.alloc _).below kb
  have X_4 : Loc w4 wb.heap.size a b := ((⟨X0, X1, Xl⟩ : Loc _ _ _ _).alloc _).below kb
  have Y_4 : Loc w4 (wb.heap.size + 1) c d := ((⟨Y0, Y1, Yl⟩ : Loc _ _ _ _).alloc _).below kb
  have A_4 : Loc w4 w3.heap.size (a + c) (b + d) := (Loc.new _ rfl).below kb
  clear kb R3 X0 X1 Xl Y0 Y1 Yl
  obtain ⟨X0, X1, Xl⟩ := X_4
  obtain ⟨Y0, Y1, Yl⟩ := Y_4
  go_wp2_with fail
  refine (mul_eq _ _ _ _ mp mq 0 _ HM.out).mono ?_
  rintro e w5 ⟨rfl, kb⟩
  have bs_w4 : w.heap.size < w4.heap.size := R4.lt
  have bl_w4 : w3.heap.size < w4.heap.size := Loc.lt A_4
  have R5 := (R4.alloc _).below kb
  have X_5 : Loc w5 wb.heap.size a b := ((⟨X0, X1, Xl⟩ : Loc _ _ _ _).alloc _).below kb
  have Y_5 : Loc w5 (wb.heap.size + 1) c d := ((⟨Y0, Y1, Yl⟩ : Loc _ _ _ _).alloc _).below kb
  have A_5 : Loc w5 w3.heap.size (a + c) (b + d) := (A_4.alloc _).below kb
  have S_5 : Loc w5 w4.heap.size (a - d) (b - c) := (Loc.new _ rfl).below kb
  clear kb A_4 R4 X0 X1 Xl Y0 Y1 Yl
  obtain ⟨X0, X1, Xl⟩ := X_5
  obtain ⟨Y0, Y1, Yl⟩ := Y_5
  have bs5 : w4.heap.size < w5.heap.size := Loc.lt S_5
  have NS : Ns w wb.heap.size (wb.heap.size + 1) w3.heap.size w4.heap.size w5.heap.size (w5.heap.size + 1) (w5.heap.size + 1 + 1) := ⟨hg, by omega, by omega, by omega, by omega, by omega, by omega⟩
  have ST : ∀ T T', St w (((w5.alloc (.cells #[.int .i64 mp, .int .i64 mq] T)).alloc (.cells #[.bool false, .bool false, .bool false] T')).alloc (.cells #[.bool false, .bool false, .bool false] T')) 10 wb.heap.size (wb.heap.size + 1) w3.heap.size w4.heap.size w5.heap.size (w5.heap.size + 1) (w5.heap.size + 1 + 1) a b c d (a + c) (b + d) (a - d) (b - c) mp mq false false false false false false := fun T T' =>
    ⟨(((R5.more (by omega)).alloc _).alloc _).alloc _, ((Loc.alloc (⟨X0, X1, Xl⟩ : Loc _ _ _ _) _).alloc _).alloc _, ((Loc.alloc (⟨Y0, Y1, Yl⟩ : Loc _ _ _ _) _).alloc _).alloc _, ((Loc.alloc A_5 _).alloc _).alloc _, ((Loc.alloc S_5 _).alloc _).alloc _, ((Loc.new _ rfl).alloc _).alloc _, (Bl.new _ (by simp)).alloc _, Bl.new _ (by simp)⟩
  have HST := Lib.hid ST
  clear ST
  go_upto_region 9 with fail
  have ST := HST.out 24 43
  generalize (((w5.alloc (.cells #[.int .i64 mp, .int .i64 mq] 24)).alloc (.cells #[.bool false, .bool false, .bool false] 43)).alloc (.cells #[.bool false, .bool false, .bool false] 43)) = wq at *
  clear HST HA HS HM
  generalize w5.heap.size + 1 = bL at *
  generalize bL + 1 = bH at *
  generalize wb.heap.size + 1 = bY at *
  generalize wb.heap.size = bX at *
  generalize w3.heap.size = bA at *
  generalize w4.heap.size = bS at *
  generalize w5.heap.size = bM at *
  obtain ⟨x0, x1, xl⟩ := ST.LX
  go_wp2_with fail
  go_loopw [14] (fun i wr => ∃ (n : Int) (l0 l1 l2 h0 h1 h2 : Bool), i = .int .i64 n ∧ a ≤ n ∧ n ≤ b + 1 ∧ St w wr 10 bX bY bA bS bM bL bH a b c d (a + c) (b + d) (a - d) (b - c) mp mq l0 l1 l2 h0 h1 h2 ∧
      Att l0 a c d (fun n m => n + m == a + c) n c ∧ Att l1 a c d (fun n m => n - m == a - d) n c ∧ Att l2 a c d (fun n m => n * m == mp) n c ∧
      Att h0 a c d (fun n m => n + m == b + d) n c ∧ Att h1 a c d (fun n m => n - m == b - c) n c ∧ Att h2 a c d (fun n m => n * m == mq) n c) (fun i _ => (b + 1 - intOf i).toNat)
  case atStart => exact ⟨a, _, _, _, _, _, _, rfl, by omega, by omega, ST, Att.start, Att.start, Att.start, Att.start, Att.start, Att.start⟩
  case round =>
    clear x0 x1 xl ST
    obtain ⟨n, l0, l1, l2, h0, h1, h2, rfl, n1, n2, S0, T0, T1, T2, U0, U1, U2⟩ := hrel
    obtain ⟨x0, x1, xl⟩ := S0.LX
    obtain ⟨y0, y1, yl⟩ := S0.LY
    by_cases hlt : n ≤ b
    · go_wp2_with fail
      obtain ⟨wo, rfl⟩ : ∃ wo : World, wo = wr := ⟨_, rfl⟩
      go_loopw [15] (fun i wr => ∃ (m : Int) (l0 l1 l2 h0 h1 h2 : Bool), i = .int .i64 m ∧ c ≤ m ∧ m ≤ d + 1 ∧ St w wr 10 bX bY bA bS bM bL bH a b c d (a + c) (b + d) (a - d) (b - c) mp mq l0 l1 l2 h0 h1 h2 ∧
          Att l0 a c d (fun n m => n + m == a + c) n m ∧ Att l1 a c d (fun n m => n - m == a - d) n m ∧ Att l2 a c d (fun n m => n * m == mp) n m ∧
          Att h0 a c d (fun n m => n + m == b + d) n m ∧ Att h1 a c d (fun n m => n - m == b - c) n m ∧ Att h2 a c d (fun n m => n * m == mq) n m) (fun i _ => (d + 1 - intOf i).toNat)
      case atStart => exact ⟨c, l0, l1, l2, h0, h1, h2, rfl, by omega, by omega, S0, T0, T1, T2, U0, U1, U2⟩
      case round =>
        clear x0 x1 xl y0 y1 yl S0 T0 T1 T2 U0 U1 U2
        obtain ⟨m, g0, g1, g2, j0, j1, j2, rfl, m1, m2, S0, T0, T1, T2, U0, U1, U2⟩ := hrel
        obtain ⟨y0, y1, yl⟩ := S0.LY
        by_cases hlm : m ≤ d
        · have hlm2 : m ≤ d := hlm
          have q0 := mul_small (x := n) (y := m) (by omega) (by omega) (by omega) (by omega)
          obtain ⟨q1, q2⟩ := q0
          go_upto_region 15 with fail
          go_cut [] (fun wx => St w wx 10 bX bY bA bS bM bL bH a b c d (a + c) (b + d) (a - d) (b - c) mp mq (g0 || (n + m == a + c)) g1 g2 (j0 || (n + m == b + d)) j1 j2)
          case first =>
            obtain ⟨e0, e1, el⟩ := S0.LA
            obtain ⟨bl0, bl1, bl2, fl0, fl1, fl2, bll⟩ := S0.BL
            obtain ⟨bh0, bh1, bh2, fh0, fh1, fh2, bhl⟩ := S0.BH
            have nlh : bL < bH := NS.h
            have nlm : bM < bL := NS.l
            have nsm : bS < bM := NS.m
            have nas : bA < bS := NS.s
            cases g0 <;> cases j0
            all_goals
              go_region
              all_goals
                go_wp2_with fail
                go_meet
                case rel => exact S0.drew.set0 NS
          case rest =>
            have S1 := hcut
            clear hcut S0
            go_upto_region 16 with fail
            go_cut [] (fun wx => St w wx 10 bX bY bA bS bM bL bH a b c d (a + c) (b + d) (a - d) (b - c) mp mq (g0 || (n + m == a + c)) (g1 || (n - m == a - d)) g2 (j0 || (n + m == b + d)) (j1 || (n - m == b - c)) j2)
            case first =>
              obtain ⟨e0, e1, el⟩ := S1.LS
              obtain ⟨bl0, bl1, bl2, fl0, fl1, fl2, bll⟩ := S1.BL
              obtain ⟨bh0, bh1, bh2, fh0, fh1, fh2, bhl⟩ := S1.BH
              have nlh : bL < bH := NS.h
              have nlm : bM < bL := NS.l
              have nsm : bS < bM := NS.m
              have nas : bA < bS := NS.s
              cases g1 <;> cases j1
              all_goals
                go_region
                all_goals
                  go_wp2_with fail
                  go_meet
                  case rel => exact S1.drew.set1 NS
            case rest =>
              have S2 := hcut
              clear hcut S1
              obtain ⟨e0, e1, el⟩ := S2.LM
              obtain ⟨bl0, bl1, bl2, fl0, fl1, fl2, bll⟩ := S2.BL
              obtain ⟨bh0, bh1, bh2, fh0, fh1, fh2, bhl⟩ := S2.BH
              have nlh : bL < bH := NS.h
              have nlm : bM < bL := NS.l
              have nsm : bS < bM := NS.m
              have nas : bA < bS := NS.s
              cases g2 <;> cases j2
              all_goals
                go_wp2_with fail
                go_region
                all_goals
                  go_wp2_with fail
                  go_roundw
                  case rel => exact ⟨m + 1, _, _, _, _, _, _, rfl, by omega, by omega, S2.drew.set2 NS, T0.step, T1.step, T2.step, U0.step, U1.step, U2.step⟩
                  case measure => simp [intOf]; omega
        · go_wp2_with fail
          go_roundw
          case rel => exact ⟨n + 1, g0, g1, g2, j0, j1, j2, rfl, by omega, by omega, S0, T0.row (by omega), T1.row (by omega), T2.row (by omega), U0.row (by omega), U1.row (by omega), U2.row (by omega)⟩
          case measure => simp [intOf]; omega
    · clear y0 y1 yl
      have hb : n = b + 1 := by omega
      have p1 : l0 = true := T0.done a c (by omega) (by omega) (by omega) (by omega) (by simp)
      have p2 : h0 = true := U0.done b d (by omega) (by omega) (by omega) (by omega) (by simp)
      have p3 : l1 = true := T1.done a d (by omega) (by omega) (by omega) (by omega) (by simp)
      have p4 : h1 = true := U1.done b c (by omega) (by omega) (by omega) (by omega) (by simp)
      have p5 : l2 = true := by
        obtain ⟨_, _, _, _, e⟩ := E1.out
        rcases e with e | e | e | e
        · exact T2.done a c (by omega) (by omega) (by omega) (by omega) (by simp [e])
        · exact T2.done a d (by omega) (by omega) (by omega) (by omega) (by simp [e])
        · exact T2.done b c (by omega) (by omega) (by omega) (by omega) (by simp [e])
        · exact T2.done b d (by omega) (by omega) (by omega) (by omega) (by simp [e])
      have p6 : h2 = true := by
        obtain ⟨_, _, _, _, e⟩ := E2.out
        rcases e with e | e | e | e
        · exact U2.done a c (by omega) (by omega) (by omega) (by omega) (by simp [e])
        · exact U2.done a d (by omega) (by omega) (by omega) (by omega) (by simp [e])
        · exact U2.done b c (by omega) (by omega) (by omega) (by omega) (by simp [e])
        · exact U2.done b d (by omega) (by omega) (by omega) (by omega) (by simp [e])
      subst p1 p2 p3 p4 p5 p6
      clear T0 T1 T2 U0 U1 U2 hb
      obtain ⟨bl0, bl1, bl2, _, _, _, bll⟩ := S0.BL
      obtain ⟨bh0, bh1, bh2, _, _, _, bhl⟩ := S0.BH
      go_wp2_with fail
      refine (sane_any _).mono ?_
      rintro e w2 ⟨rfl, kb⟩
      have R1 := S0.R.below kb
      go_wp2_with fail
      go_ret
      exact ⟨rfl, R1.bel⟩
end Go.Proofs.Ytfpjpilhblhhgaa
