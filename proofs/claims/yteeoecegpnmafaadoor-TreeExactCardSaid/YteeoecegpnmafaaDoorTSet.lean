/-
  Stage 10: sets of indexes; the program's onPath, members, pathTo.
-/
import Derived.Test.YteeoecegpnmafaaDoorTPath
import Derived.Test.YteeoecegpnmafaaDoorWApp
import Derived.Test.YteeoecegpnmafaaDoorLValid
set_option linter.unusedSimpArgs false
set_option linter.unusedVariables false
namespace Go.Proofs.YteeoecegpnmafaaDoor
open Go.RowKit Go.Lib

/-- Block b is the set bs. -/
def BSet (w : World) (b : Nat) (bs : List Bool) : Prop := w.heap[b]? = some (.cells (bs.map Value.bool).toArray 4 (0, 0))
theorem BSet.lt {w : World} {b : Nat} {bs : List Bool} (h : BSet w b bs) : b < w.heap.size := (Array.getElem?_eq_some_iff.1 h).1
theorem BSet.below {w w' : World} {b : Nat} {bs : List Bool} (h : BSet w b bs) (k : Below w.heap.size w w') : BSet w' b bs := (k.block b h.lt).trans h
theorem BSet.alloc {w : World} {b : Nat} {bs : List Bool} (h : BSet w b bs) (o : Obj) : BSet (w.alloc o) b bs := h.below ((Below.refl _ _).alloc (Nat.le_refl _) _)
theorem BSet.drewN {w : World} {b : Nat} {bs : List Bool} (h : BSet w b bs) (n : Nat) : BSet (w.drewN n) b bs := h
theorem BSet.grown {w w' : World} {b : Nat} {bs : List Bool} {row : Option Nat} (h : BSet w b bs) (k : w.grownBy w' row) (hm : some b ≠ row) : BSet w' b bs := (k.block b h.lt hm).trans h
theorem BSet.cell {w : World} {b : Nat} {bs : List Bool} (h : BSet w b bs) (j : Nat) (hj : j < bs.length) : w.cell? ⟨b, j, none⟩ = some (.bool (bs.getD j false)) := by
  unfold World.cell?
  rw [h]
  simp [hj]
theorem BSet.frozen {w : World} {b : Nat} {bs : List Bool} (h : BSet w b bs) (j : Nat) : w.frozen? ⟨b, j, none⟩ = false := frozen_of_row w b j _ 4 h
theorem BSet.set {w : World} {b : Nat} {bs : List Bool} (h : BSet w b bs) (j : Nat) (x : Bool) : BSet (w.setCell ⟨b, j, none⟩ (.bool x)) b (bs.set j x) := by
  have := heap_setCell_same w b j _ 4 (.bool x) h
  unfold BSet
  rw [this]
  simp
theorem BSet.new (w : World) (bs : List Bool) (b : Nat) (hb : b = w.heap.size) : BSet (w.alloc (.cells (bs.map Value.bool).toArray 4)) b bs := by subst hb; exact heap_alloc_new w _
theorem infoBool : (Tryd.prog.info? 4).map (fun i => (i.zero, i.size, i.bytes)) = some (some (.bool false), 1, 1) := by kernel_rfl
theorem make_bools (w : World) (X : Nat) (hX : X ≤ 1000) : (Instr.makeSlice 47 (.int .i64 (X : Int)) (.int .i64 (X : Int))).run Tryd.prog w = .ok (.slice (some ⟨w.heap.size, 0, none⟩) X X) (w.alloc (.cells ((List.replicate X false).map Value.bool).toArray 4)) := by
  obtain ⟨i0, hi, hz0, hz1, hz2⟩ := info_parts infoBool
  have h := run_make (P := Tryd.prog) w 47 4 i0 (.bool false) Tryd.underlying47 hi hz0 .i64 .i64 (X : Int) (X : Int) (by omega) (Int.le_refl _) (by rw [hz2]; omega) (by omega)
  rw [hz1, Int.toNat_natCast] at h
  have e : madeCells (Value.bool false).cells (X * 1) = ((List.replicate X false).map Value.bool).toArray := by
    rw [Nat.mul_one, List.map_replicate]
    apply Array.ext'
    refine List.ext_getElem? fun j => ?_
    unfold madeCells
    by_cases h : j < X
    · simp [h, Nat.mod_one, Value.cells]
    · simp [h]
  rw [e] at h
  exact h
def OnPost (l : List El) (i : Int) (w : World) (e : Ending) (w' : World) : Prop := ∃ g, e = .returned (.slice (some ⟨g, 0, none⟩) l.length l.length) ∧ w.heap.size ≤ g ∧ BSet w' g (onZ l i) ∧ Below w.heap.size w w'
set_option maxHeartbeats 800000 in
theorem onpath_any (l : List El) (A : Option Addr) (c : Nat) (hp : Par l) (h128 : l.length ≤ 128) : ∀ (f : Nat) (i : Int) (w : World), RRow ER w A l → -1 ≤ i → i < l.length → (i + 1).toNat ≤ f →
    Calls Tryd.prog 34 #[.slice A l.length c, .int .i64 i] w (OnPost l i w) := by
  intro f
  induction f with
  | zero =>
    intro i w H hi0 hi1 hf
    have hneg : i < 0 := by omega
    have HZ := Lib.hid (onZ_neg (l := l) hneg)
    have hmk := fun w => make_bools w l.length (by omega)
    have HN := Lib.hid (show BSet (w.alloc (.cells (Array.replicate l.length (Value.bool false)) 4)) w.heap.size (List.replicate l.length false) by have h := BSet.new w (List.replicate l.length false) w.heap.size rfl; simpa using h)
    clear H
    go_enter Tryd.func34, Tryd.ntmps34
    go_wp2_with fail
    go_ret
    exact ⟨w.heap.size, rfl, Nat.le_refl _, by rw [HZ.out]; exact HN.out, (Below.refl _ _).alloc (Nat.le_refl _) _⟩
  | succ f ih =>
    intro i w H hi0 hi1 hf
    by_cases hneg : i < 0
    · have HZ := Lib.hid (onZ_neg (l := l) hneg)
      have hmk := fun w => make_bools w l.length (by omega)
      have HN := Lib.hid (show BSet (w.alloc (.cells (Array.replicate l.length (Value.bool false)) 4)) w.heap.size (List.replicate l.length false) by have h := BSet.new w (List.replicate l.length false) w.heap.size rfl; simpa using h)
      clear H ih
      go_enter Tryd.func34, Tryd.ntmps34
      go_wp2_with fail
      go_ret
      exact ⟨w.heap.size, rfl, Nat.le_refl _, by rw [HZ.out]; exact HN.out, (Below.refl _ _).alloc (Nat.le_refl _) _⟩
    · obtain ⟨k, rfl⟩ := Int.eq_ofNat_of_zero_le (show 0 ≤ i by omega)
      have hb := hp.bd (show (0 : Int) ≤ (k : Int) by omega) hi1
      have hk : k < l.length := by omega
      obtain ⟨ad, rfl, C⟩ := H.at_ (List.getElem?_eq_getElem hk)
      have c2 := (ESpelt.of C).c2
      have e2 : (l[k]).par = parA l (k : Int) := by unfold parA; rw [Int.toNat_natCast, List.getD_eq_getElem?_getD, List.getElem?_eq_getElem hk]; rfl
      rw [e2] at c2
      obtain ⟨p, hpa⟩ : ∃ p, p = parA l (k : Int) := ⟨_, rfl⟩
      have HST := Lib.hid (onZ_step hp (show (0 : Int) ≤ (k : Int) by omega) hi1)
      have HSP := Lib.hid (onZ_spec hp (show parA l (k : Int) < l.length by omega))
      have HC := Lib.hid (ih (parA l (k : Int)) w H (by omega) (by omega) (by omega))
      rw [← hpa] at c2 HST HSP HC hb
      have hkL : (k : Int) < (l.length : Int) := hi1
      clear C e2 hpa ih H
      go_enter Tryd.func34, Tryd.ntmps34
      go_wp2_with fail
      refine HC.out.mono ?_
      rintro e w1 ⟨g, rfl, hg, S, B⟩
      have d := S.cell k (by rw [HSP.out.1]; exact hk)
      have fz := S.frozen k
      have S1 := Lib.hid (S.set k true)
      have B1 := Lib.hid (B.setCell (p := ⟨g, k, none⟩) hg (.bool true))
      clear S B c2
      go_wp2_with fail
      go_ret
      exact ⟨g, rfl, hg, by rw [HST.out]; exact S1.out, B1.out⟩
def IntsPost (zs : List Int) (w : World) (e : Ending) (w' : World) : Prop := ∃ v, e = .returned v ∧ Own .i64 3 w' w.heap.size v zs ∧ Below w.heap.size w w'
set_option maxHeartbeats 800000 in
theorem members_any (bs : List Bool) (g c : Nat) (w : World) (h : BSet w g bs) (hn : bs.length ≤ 1000) :
    Calls Tryd.prog 33 #[.slice (some ⟨g, 0, none⟩) bs.length c] w (IntsPost (memZ bs) w) := by
  have HS := Lib.hid h
  obtain ⟨L, hL⟩ : ∃ n, n = bs.length := ⟨_, rfl⟩
  have HL := Lib.hid hL
  rw [← hL] at hn ⊢
  have hml : (memZ []).length = 0 := rfl
  clear h hL
  go_enter Tryd.func33, Tryd.ntmps33
  go_wp2_with fail
  go_loopw [3, 8] (fun ov iv wr => ∃ k : Nat, k ≤ L ∧ iv = .int .i64 (k : Int) ∧ (memZ (bs.take k)).length ≤ k ∧ Hid (Own .i64 3 wr w.heap.size ov (memZ (bs.take k))) ∧ Hid (Below w.heap.size w wr)) (fun _ iv _ => L - (intOf iv).toNat)
  case atStart => exact ⟨0, by omega, rfl, Nat.le_refl _, Lib.hid Own.nil, Lib.hid (Below.refl _ _)⟩
  case round =>
    clear hml
    obtain ⟨k, hk, rfl, hm, O, B⟩ := hrel
    by_cases hlt : k < L
    · have hc := (HS.out.below B.out).cell k (by rw [← HL.out]; exact hlt)
      have HT := Lib.hid (memZ_take (show k < bs.length by rw [← HL.out]; exact hlt))
      cases hb : bs.getD k false with
      | false =>
        rw [hb] at hc HT
        have HT2 := Lib.hid (show memZ (bs.take (k + 1)) = memZ (bs.take k) by rw [HT.out]; simp)
        clear hb HT
        go_wp2_with fail
        go_roundw
        case rel => exact ⟨k + 1, by omega, by go_num, by rw [HT2.out]; omega, by rw [HT2.out]; exact O, B⟩
        case measure => simp [intOf]; omega
      | true =>
        rw [hb] at hc HT
        have HT2 := Lib.hid (show memZ (bs.take (k + 1)) = memZ (bs.take k) ++ [(k : Int)] by rw [HT.out]; simp)
        clear hb HT
        go_wp2_with (first | (at_builtin; refine wpList_appI _ rfl (.tmp 14) (.tmp 16) rfl w.heap.size _ (memZ (bs.take k)) rfl (O.out.alloc _) (k : Int) wr rfl _ rfl 1 rfl (by omega) (le_allocW B.out.size) ?_; rintro v6 w6 hap; have O6 := Lib.hid hap.1; have B6 := Lib.hid (hap.below B.out B.out.size O.out); obtain ⟨_, _, g6, c6, rfl, _, _⟩ := hap; clear O B))
        go_roundw
        case rel => exact ⟨k + 1, by omega, by go_num, by rw [HT2.out, List.length_append]; simp; omega, by rw [HT2.out]; exact O6, B6⟩
        case measure => simp [intOf]; omega
    · obtain rfl : k = L := by omega
      have HB := Lib.hid (show memZ (bs.take k) = memZ bs by rw [HL.out, List.take_length])
      go_wp2_with fail
      go_ret
      exact ⟨_, rfl, by rw [← HB.out]; exact O.out, B.out⟩
theorem pathto_any (l : List El) (A : Option Addr) (c : Nat) (i : Int) (w : World) (hp : Par l) (h128 : l.length ≤ 128) (H : RRow ER w A l) (hi0 : 0 ≤ i) (hi1 : i < l.length) :
    Calls Tryd.prog 32 #[.slice A l.length c, .int .i64 i] w (IntsPost (wayZ l i) w) := by
  have HC := Lib.hid (onpath_any l A c hp h128 _ i w H (by omega) hi1 (Nat.le_refl _))
  have HSP := Lib.hid (onZ_spec hp hi1)
  clear H
  go_enter Tryd.func32, Tryd.ntmps32
  go_wp2_with fail
  refine HC.out.mono ?_
  rintro e w1 ⟨g, rfl, hg, S, B⟩
  have hm := members_any (onZ l i) g l.length w1 S (by rw [HSP.out.1]; omega)
  rw [HSP.out.1, HSP.out.2.2] at hm
  have HM := Lib.hid hm
  have HB := Lib.hid B
  clear hm S B
  go_wp2_with fail
  refine HM.out.mono ?_
  rintro e w2 ⟨v, rfl, O, B2⟩
  have O2 := Lib.hid (O.base HB.out.size)
  have HB2 := Lib.hid (HB.out.trans (B2.mono HB.out.size))
  clear O B2
  go_wp2_with fail
  go_ret
  exact ⟨v, rfl, O2.out, HB2.out⟩
end Go.Proofs.YteeoecegpnmafaaDoor
