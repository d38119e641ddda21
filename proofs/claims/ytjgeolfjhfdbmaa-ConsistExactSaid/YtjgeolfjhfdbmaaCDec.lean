/-
  Stage 6: the list of bytes: the program.
-/
import Derived.Test.YtjgeolfjhfdbmaaCLs
import Derived.Test.YtjgeolfjhfdbmaaCList
set_option linter.unusedSimpArgs false
set_option linter.unusedVariables false
namespace Go.Proofs.Ytjgeolfjhfdbmaa
open Go.RowKit

/-- Where the wagons of bytes end, what they are, what is wrong with them. -/
def endN (bs : List Int) : Nat := lsN bs (tkN bs 0 1) (cntV bs 0)
def endS (bs : List Int) : Bool := lsS bs (tkN bs 0 1) (tkS bs 0 1 false) (cntV bs 0)
def endG (bs : List Int) : Bool := lsG bs (tkN bs 0 1) false (cntV bs 0)
def endX (bs : List Int) : List Wag := lsX bs (tkN bs 0 1) (cntV bs 0)
def decR (bs : List Int) : List Wag × Int :=
  if tkS bs (endN bs) 2 (endS bs) = true then ([], 10) else
  if tkN bs (endN bs) 2 < bs.length then ([], 11) else
  if prV bs (endN bs) ≠ chk (bs.take (endN bs)) then ([], 9) else
  if endG bs = true then ([], 11) else
  if validL (endX bs) ≠ 0 then ([], validL (endX bs)) else (endX bs, 0)
def DecPost (bs : List Int) (w : World) (e : Ending) (w' : World) : Prop :=
  ∃ v, e = .returned (.tuple #[v, .int .i64 (decR bs).2]) ∧ ROwn WR 30 w' w.heap.size v (decR bs).1 ∧ Below w.heap.size w w'
theorem DecPost.mk' {bs : List Int} {w w' : World} {v : Value} {l : List Wag} {er : Int} (h : decR bs = (l, er)) (h2 : ROwn WR 30 w' w.heap.size v l) (h3 : Below w.heap.size w w') : DecPost bs w (.returned (.tuple #[v, .int .i64 er])) w' := by
  refine ⟨v, ?_, ?_, h3⟩
  · rw [h]
  · rw [h]; exact h2
theorem Rd.new {w : World} {A : Option Addr} {c : Nat} {bs : List Int} {T : TypeId} (h : BRow w A bs) (hc : bs.length ≤ c ∧ c ≤ maxLen) : Rd (w.alloc (.cells #[.slice A bs.length c, .int .i64 0, .bool false, .bool false] T)) w.heap.size A c bs 0 false false := by
  have e : (w.alloc (.cells #[.slice A bs.length c, .int .i64 0, .bool false, .bool false] T)).heap[w.heap.size]? = some (.cells #[.slice A bs.length c, .int .i64 0, .bool false, .bool false] T) := heap_alloc_new w _
  have hf : ∀ j, (w.alloc (.cells #[.slice A bs.length c, .int .i64 0, .bool false, .bool false] T)).frozen? ⟨w.heap.size, j, none⟩ = false := fun j => by unfold World.frozen?; rw [e]; rfl
  exact ⟨by rw [cell_new]; rfl, by rw [cell_new]; rfl, by rw [cell_new]; rfl, by rw [cell_new]; rfl, hf 1, hf 2, hf 3, by simp, h.row.keep (fun q hq => ((Below.refl _ _).alloc (Nat.le_refl _) _).cell hq) (Nat.le_refl _), h.bd, h.len, hc, Nat.zero_le _⟩
theorem Rd.brow {w : World} {p : Nat} {A : Option Addr} {c n : Nat} {bs : List Int} {s g : Bool} (h : Rd w p A c bs n s g) : BRow w A bs := ⟨h.row.more (Nat.le_of_lt h.lt), h.len, h.bd⟩
abbrev boxR (w : World) (A : Option Addr) (L c : Nat) : World := w.alloc (.cells #[.slice A L c, .int .i64 0, .bool false, .bool false] 64)
set_option maxHeartbeats 3200000 in
theorem pdec_any (A : Option Addr) (c : Nat) (bs : List Int) (w : World) (h : BRow w A bs) (hc : bs.length ≤ c ∧ c ≤ maxLen) :
    Calls Try.prog 25 #[.slice A bs.length c] w (DecPost bs w) := by
  have R0 := Lib.hid (Rd.new (T := 64) h hc)
  have B0 := Lib.hid (box1 w (.cells #[.slice A bs.length c, .int .i64 0, .bool false, .bool false] 64))
  have HR := Lib.hid (show decR bs = (if tkS bs (endN bs) 2 (endS bs) = true then ([], 10) else if tkN bs (endN bs) 2 < bs.length then ([], 11) else if prV bs (endN bs) ≠ chk (bs.take (endN bs)) then ([], 9) else if endG bs = true then ([], 11) else if validL (endX bs) ≠ 0 then ([], validL (endX bs)) else (endX bs, 0)) from rfl)
  have hl := h.len
  obtain ⟨hc1, hc2⟩ := hc
  have hc3 : (c : Int) ≤ 9223372036854775807 := by unfold maxLen at hc2; omega
  obtain ⟨p, hp⟩ : ∃ p, p = w.heap.size := ⟨_, rfl⟩
  have HP := Lib.hid hp
  obtain ⟨L, hL⟩ : ∃ L, L = bs.length := ⟨_, rfl⟩
  have HL := Lib.hid hL
  rw [← hL] at hl hc1 ⊢
  clear h hc2
  rw [← hL, ← hp] at R0
  have R0' := Lib.hid R0.out
  rw [← hL] at B0
  clear hL hp
  go_enter Try.func25, Try.ntmps25
  go_wp2_with fail
  rw [← HP.out]
  refine (list_any p A c bs 0 false false _ R0.out).mono ?_
  rintro e w1 ⟨b, rfl, O1, R1, M1⟩
  have e1 : lsN bs (tkN bs 0 1) (cntV bs 0) = endN bs := rfl
  have e2 : lsS bs (tkN bs 0 1) (tkS bs 0 1 false) (cntV bs 0) = endS bs := rfl
  have e3 : lsG bs (tkN bs 0 1) false (cntV bs 0) = endG bs := rfl
  have e4 : lsX bs (tkN bs 0 1) (cntV bs 0) = endX bs := rfl
  have hkl : (endX bs).length = cntV bs 0 := lsX_len _ _ _
  rw [e1, e2, e3] at R1
  rw [e4] at O1
  generalize endN bs = n at *
  generalize endS bs = s at *
  generalize endG bs = g at *
  generalize endX bs = l at *
  generalize cntV bs 0 = K at *
  have HM1 := Lib.hid M1
  have HO1 := Lib.hid O1
  have HR1 := Lib.hid R1
  obtain ⟨c0, c1, c2, c3, _, _, _, lt1, _, _, _, _, le1⟩ := R1
  rw [← HL.out] at c0 le1
  have HKL := Lib.hid hkl
  have hwp : w.heap.size ≤ p := by rw [HP.out]; exact Nat.le_refl _
  have HWP := Lib.hid hwp
  have HBB := Lib.hid (show Below w.heap.size w w1 from Moves.below B0.out HM1.out HWP.out (by rw [World.size_alloc]; omega))
  have q1 : (n : Int) ≤ (c : Int) := by omega
  clear e1 e2 e3 e4 M1 O1 hkl hwp
  go_wp2_with fail
  clear c0 c1 c2 c3 q1
  refine (pair_any p A c bs n s g w1 HR1.out).mono ?_
  rintro e w2 ⟨rfl, R2, M2⟩
  have HB2 := Lib.hid (show Below w.heap.size w w2 from Moves.below HBB.out M2 HWP.out HBB.out.size)
  have HO2 := Lib.hid (show ROwn WR 30 w2 w.heap.size (.slice (some ⟨b, 0, none⟩) K K) l from by
    refine ROwn.base (base := (boxR w A L c).heap.size) (HO1.out.moves M2 ?_) ?_
    · rw [HP.out, World.size_alloc]; omega
    · rw [World.size_alloc]; omega)
  generalize tkN bs n 2 = n2 at *
  generalize tkS bs n 2 s = s2 at *
  obtain ⟨v, hv⟩ : ∃ v, v = prV bs n := ⟨_, rfl⟩
  rw [← hv] at HR ⊢
  have HR2 := Lib.hid R2
  obtain ⟨c0, c1, c2, c3, _, _, _, lt2, _, _, _, _, le2⟩ := R2
  rw [← HL.out] at c0 le2
  rw [← HL.out] at HR
  clear M2 hv HO1 HM1 HBB HR1
  cases s2 with
  | true =>
    have HF := Lib.hid (show decR bs = ([], 10) by rw [HR.out]; rfl)
    go_wp2_with fail
    go_ret2
    exact DecPost.mk' HF.out ROwn.nil HB2.out
  | false =>
    by_cases h1 : n2 < L
    · have HF := Lib.hid (show decR bs = ([], 11) by rw [HR.out, if_neg (by decide), if_pos h1])
      have q1 : (n2 : Int) < (L : Int) := by omega
      clear h1
      go_wp2_with fail
      go_ret2
      exact DecPost.mk' HF.out ROwn.nil HB2.out
    · have HR3 := Lib.hid (show decR bs = (if v ≠ chk (bs.take n) then ([], 9) else if g = true then ([], 11) else if validL l ≠ 0 then ([], validL l) else (l, 0)) by rw [HR.out, if_neg (by decide), if_neg h1])
      have q1 : ¬ (n2 : Int) < (L : Int) := by omega
      have hn : n = (bs.take n).length := by rw [List.length_take, ← HL.out]; omega
      have HN := Lib.hid hn
      have HBR := Lib.hid (HR2.out.brow.take n)
      clear h1 hn HR
      go_wp2_with fail
      have hck := pchk_any (bs.take n) A c w2 HBR.out
      rw [← HN.out] at hck
      refine hck.mono ?_
      rintro e w' ⟨rfl, rfl⟩
      clear hck
      by_cases h2 : v ≠ chk (bs.take n)
      · have HF := Lib.hid (show decR bs = ([], 9) by rw [HR3.out, if_pos h2])
        have ev : (v != chk (bs.take n)) = true := bne_iff_ne.2 h2
        clear h2
        go_wp2_with fail
        go_ret2
        exact DecPost.mk' HF.out ROwn.nil HB2.out
      · have HR4 := Lib.hid (show decR bs = (if g = true then ([], 11) else if validL l ≠ 0 then ([], validL l) else (l, 0)) by rw [HR3.out, if_neg h2])
        have h3 := Decidable.of_not_not h2
        have ev : (v != chk (bs.take n)) = false := bne_eq_false_iff_eq.2 h3
        clear h2 h3 HR3
        cases g with
        | true =>
          have HF := Lib.hid (show decR bs = ([], 11) by rw [HR4.out]; rfl)
          go_wp2_with fail
          go_ret2
          exact DecPost.mk' HF.out ROwn.nil HB2.out
        | false =>
          have HR5 := Lib.hid (show decR bs = (if validL l ≠ 0 then ([], validL l) else (l, 0)) by rw [HR4.out]; rfl)
          have HRW := Lib.hid (show RRow WR w2 (some ⟨b, 0, none⟩) l by
            obtain ⟨A', c', e, R, _⟩ := HO2.out.full
            injection e with e
            rw [e]; exact R)
          clear HR4
          go_wp2_with fail
          have hpl := plist_any l (some ⟨b, 0, none⟩) K w2 HRW.out
          rw [HKL.out] at hpl
          refine hpl.mono ?_
          rintro e w3 ⟨rfl, B3⟩
          have HB3 := Lib.hid (HB2.out.trans (B3.mono HB2.out.size))
          have HO3 := Lib.hid (HO2.out.below B3)
          obtain ⟨x, hx⟩ : ∃ x, x = validL l := ⟨_, rfl⟩
          rw [← hx] at HR5 ⊢
          clear hpl hx B3 HRW
          by_cases h4 : x ≠ 0
          · have HF := Lib.hid (show decR bs = ([], x) by rw [HR5.out, if_pos h4])
            have ev : (x != 0) = true := bne_iff_ne.2 h4
            clear h4
            go_wp2_with fail
            go_ret2
            exact DecPost.mk' HF.out ROwn.nil HB3.out
          · have HF := Lib.hid (show decR bs = (l, 0) by rw [HR5.out, if_neg h4])
            obtain rfl := Decidable.of_not_not h4
            clear h4
            go_wp2_with fail
            go_ret2
            exact DecPost.mk' HF.out HO3.out HB3.out
end Go.Proofs.Ytjgeolfjhfdbmaa
