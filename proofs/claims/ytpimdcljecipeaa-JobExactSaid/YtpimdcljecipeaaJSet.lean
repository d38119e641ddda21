/-
  Stage 11: lists of bools of the call's own; lists of lists that are read; whether lists are sorted.
-/
import Derived.Test.YtpimdcljecipeaaJDeep
set_option linter.unusedSimpArgs false
set_option linter.unusedVariables false
namespace Go.Proofs.Ytpimdcljecipeaa
open Go.RowKit Go.Lib

/-- Block b is the set bs. -/
def BSet (w : World) (b : Nat) (bs : List Bool) : Prop := w.heap[b]? = some (.cells (bs.map Value.bool).toArray 4 (0, 0))
theorem BSet.lt {w : World} {b : Nat} {bs : List Bool} (h : BSet w b bs) : b < w.heap.size := (Array.getElem?_eq_some_iff.1 h).1
theorem BSet.below {w w' : World} {b B : Nat} {bs : List Bool} (h : BSet w b bs) (k : Below B w w') (hb : b < B) : BSet w' b bs := (k.block b hb).trans h
theorem BSet.drewN {w : World} {b : Nat} {bs : List Bool} (h : BSet w b bs) (n : Nat) : BSet (w.drewN n) b bs := h
theorem BSet.cell {w : World} {b : Nat} {bs : List Bool} (h : BSet w b bs) (j : Nat) (hj : j < bs.length) : w.cell? ⟨b, j, none⟩ = some (.bool (bs.getD j false)) := by
  unfold World.cell?
  rw [h]
  simp [hj]
theorem BSet.frozen {w : World} {b : Nat} {bs : List Bool} (h : BSet w b bs) (j : Nat) : w.frozen? ⟨b, j, none⟩ = false := frozen_of_row w b j _ 4 h
theorem BSet.set {w : World} {b : Nat} {bs : List Bool} (h : BSet w b bs) (j : Nat) (x : Bool) : BSet (w.setCell ⟨b, j, none⟩ (.bool x)) b (bs.set j x) := by
  have := heap_setCell_same w b j _ 4 (.bool x) h
  unfold BSet
  rw [this]
  simp
theorem BSet.new (w : World) (bs : List Bool) (b : Nat) (hb : b = w.heap.size) : BSet (w.alloc (.cells (bs.map Value.bool).toArray 4)) b bs := by subst hb; exact heap_alloc_new w _
theorem infoBool : (Try.prog.info? 4).map (fun i => (i.zero, i.size, i.bytes)) = some (some (.bool false), 1, 1) := by kernel_rfl
theorem make_bools (w : World) (X : Nat) (hX : X ≤ 1000) : (Instr.makeSlice 66 (.int .i64 (X : Int)) (.int .i64 (X : Int))).run Try.prog w = .ok (.slice (some ⟨w.heap.size, 0, none⟩) X X) (w.alloc (.cells ((List.replicate X false).map Value.bool).toArray 4)) := by
  obtain ⟨i0, hi, hz0, hz1, hz2⟩ := info_parts infoBool
  have h := run_make (P := Try.prog) w 66 4 i0 (.bool false) Try.underlying66 hi hz0 .i64 .i64 (X : Int) (X : Int) (by omega) (Int.le_refl _) (by rw [hz2]; omega) (by omega)
  rw [hz1, Int.toNat_natCast] at h
  have e : madeCells (Value.bool false).cells (X * 1) = ((List.replicate X false).map Value.bool).toArray := by
    rw [Nat.mul_one, List.map_replicate]
    apply Array.ext'
    refine List.ext_getElem? fun j => ?_
    unfold madeCells
    by_cases h : j < X
    · simp [h, Nat.mod_one, Value.cells]
    · simp [h]
  rw [e] at h
  exact h
/-- One of them is false. -/
def hasF (bs : List Bool) : Bool := bs.contains false
set_option maxHeartbeats 800000 in
theorem idxFalse_any (bs : List Bool) (g c : Nat) (w : World) (h : BSet w g bs) (hm : bs.length ≤ maxLen) :
    Calls Try.prog 43 #[.slice (some ⟨g, 0, none⟩) bs.length c, .bool false] w fun e w' => ∃ z : Int, e = .returned (.int .i64 z) ∧ hasF bs = decide (0 ≤ z) ∧ w' = w := by
  have hl : bs.length ≤ 9223372036854775807 := hm
  have H := Lib.hid h
  obtain ⟨L, hL⟩ : ∃ n, n = bs.length := ⟨_, rfl⟩
  have HL := Lib.hid hL
  rw [← hL] at hl ⊢
  clear h hL hm
  go_enter Try.func43, Try.ntmps43
  go_wp2_with fail
  go_loopw [8] (fun iv wr => ∃ k : Nat, k ≤ L ∧ iv = .int .i64 (k : Int) ∧ Hid (∀ x, x < k → bs.getD x false = true) ∧ Hid (wr = w)) (fun iv _ => L - (intOf iv).toNat)
  case atStart => exact ⟨0, by omega, rfl, Lib.hid (fun x hx => absurd hx (Nat.not_lt_zero _)), Lib.hid rfl⟩
  case round =>
    obtain ⟨k, hk, rfl, F, HW⟩ := hrel
    obtain rfl := HW.out
    by_cases hlt : k < L
    · have ck := H.out.cell k (by rw [← HL.out]; exact hlt)
      have HLT := Lib.hid hlt
      cases hz : bs.getD k false with
      | false =>
        rw [hz] at ck
        have HC := Lib.hid (show hasF bs = decide ((0 : Int) ≤ (k : Int)) from by
          unfold hasF
          have hm : bs.contains false = true := by
            rw [List.contains_iff_mem, ← hz, List.getD_eq_getElem?_getD, List.getElem?_eq_getElem (by rw [← HL.out]; exact hlt)]
            exact List.getElem_mem _
          rw [hm]; simp)
        clear hz
        go_wp2_with fail
        go_ret
        exact ⟨_, rfl, HC.out, rfl⟩
      | true =>
        rw [hz] at ck
        have HZ := Lib.hid hz
        clear hz
        go_wp2_with fail
        go_roundw
        case rel => exact ⟨k + 1, by omega, by go_num, Lib.hid (fun x hx => by
          rcases Nat.lt_or_ge x k with g | g
          · exact F.out x g
          · have : x = k := by omega
            subst this; exact HZ.out), Lib.hid trivial⟩
        case measure => simp [intOf]; omega
    · obtain rfl : k = L := by omega
      have HC := Lib.hid (show hasF bs = decide ((0 : Int) ≤ -1) from by
        unfold hasF
        have hm : bs.contains false = false := by
          rw [Bool.eq_false_iff]
          intro hc
          rw [List.contains_iff_mem] at hc
          obtain ⟨i, hi⟩ := List.mem_iff_getElem?.1 hc
          have hil := (List.getElem?_eq_some_iff.1 hi).1
          have := F.out i (by rw [HL.out]; exact hil)
          rw [List.getD_eq_getElem?_getD, hi] at this
          cases this
        rw [hm]; rfl)
      go_wp2_with fail
      go_ret
      exact ⟨-1, rfl, HC.out, rfl⟩
theorem hasFalse_any (bs : List Bool) (g c : Nat) (w : World) (h : BSet w g bs) (hm : bs.length ≤ maxLen) :
    Calls Try.prog 38 #[.slice (some ⟨g, 0, none⟩) bs.length c, .bool false] w fun e w' => e = .returned (.bool (hasF bs)) ∧ w' = w := by
  have HI := Lib.hid (idxFalse_any bs g c w h hm)
  clear h hm
  go_enter Try.func38, Try.ntmps38
  go_wp2_with fail
  refine HI.out.mono ?_
  rintro e w1 ⟨z, rfl, hz, hw⟩
  rw [hw]
  have HZ := Lib.hid hz
  clear hz hw
  go_wp2_with fail
  go_ret
  exact ⟨by rw [HZ.out]; rfl, rfl⟩
/-- The slice from A on reads as lists. -/
def PP (w : World) (A : Option Addr) (ps : List (List Int)) : Prop :=
  ∀ k p, ps[k]? = some p → ∃ ad : Addr, A = some ad ∧ ad.block < w.heap.size ∧ ∃ a c, w.cell? (ad.add k) = some (.slice a p.length c) ∧ Row .i64 w w.heap.size a p ∧ p.length ≤ maxLen
theorem PP.below {w w' : World} {A : Option Addr} {ps : List (List Int)} (h : PP w A ps) (b : Below w.heap.size w w') : PP w' A ps := fun k p hk => by
  obtain ⟨ad, e, hb, a, c, hc, hr, hm⟩ := h k p hk
  exact ⟨ad, e, Nat.lt_of_lt_of_le hb b.size, a, c, (b.cell (by rw [add_block]; exact hb)).trans hc, hr.below b, hm⟩
theorem PP.drewN {w : World} {A : Option Addr} {ps : List (List Int)} (h : PP w A ps) (n : Nat) : PP (w.drewN n) A ps := h.below ⟨rfl, rfl, rfl, Nat.le_refl _, fun _ _ => rfl⟩
theorem PP.nil {w : World} {A : Option Addr} : PP w A [] := fun k p hk => by simp at hk
theorem getD_ex {α : Type} {l : List α} {k : Nat} (z : α) (h : k < l.length) : l[k]? = some (l.getD k z) := by
  rw [List.getD_eq_getElem?_getD, List.getElem?_eq_getElem h]; rfl
theorem PP.at_ {w : World} {A : Option Addr} {ps : List (List Int)} (h : PP w A ps) {k : Nat} (hk : k < ps.length) :
    ∃ ad : Addr, A = some ad ∧ ∃ a c, w.cell? (ad.add k) = some (.slice a (ps.getD k []).length c) ∧ Row .i64 w w.heap.size a (ps.getD k []) ∧ (ps.getD k []).length ≤ maxLen := by
  obtain ⟨ad, e, _, a, c, h1, h2, h3⟩ := h k _ (getD_ex [] hk)
  exact ⟨ad, e, a, c, h1, h2, h3⟩
/-- Whether index x may come next in the list of train t, behind index p. -/
def stepOk (l : List It) (t : Int) (prev : Option Int) (seen : List Bool) (x : Int) : Bool :=
  (btw x 0 ((l.length : Int) - 1) && (!seen.getD x.toNat false && decide (trn l x.toNat = t))) && (match prev with | none => true | some p => !decide (blk l x.toNat < blk l p.toNat))
def goL (l : List It) (t : Int) (prev : Option Int) (seen : List Bool) : List Int → Option (List Bool)
  | [] => some seen
  | x :: r => if stepOk l t prev seen x = true then goL l t (some x) (seen.set x.toNat true) r else none
def goT (l : List It) (t : Int) (seen : List Bool) : List (List Int) → Option (List Bool)
  | [] => some seen
  | p :: r => match goL l t none seen p with
    | none => none
    | some s => goT l (t + 1) s r
def sortedB (l : List It) (ts : List (List Int)) : Bool := match goT l 0 (List.replicate l.length false) ts with
  | none => false
  | some s => !hasF s
theorem drop_any {α : Type} {l : List α} {k : Nat} (z : α) (hk : k < l.length) : l.drop k = l.getD k z :: l.drop (k + 1) := by
  rw [List.drop_eq_getElem_cons hk, List.getD_eq_getElem?_getD, List.getElem?_eq_getElem hk]; rfl
/-- The index ahead of place n. -/
def prv (p : List Int) (n : Nat) : Option Int := if n = 0 then none else some (p.getD (n - 1) 0)
theorem goL_ok {l : List It} {t : Int} {prev : Option Int} {seen : List Bool} {x : Int} {r : List Int} (h : stepOk l t prev seen x = true) : goL l t prev seen (x :: r) = goL l t (some x) (seen.set x.toNat true) r := if_pos h
theorem goL_no {l : List It} {t : Int} {prev : Option Int} {seen : List Bool} {x : Int} {r : List Int} (h : stepOk l t prev seen x = false) : goL l t prev seen (x :: r) = none := if_neg (by rw [h]; exact Bool.false_ne_true)
end Go.Proofs.Ytpimdcljecipeaa
