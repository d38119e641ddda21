/-
  Stage 9: the parent that a word names (the program).
-/
import Derived.Test.YtdoifaifhikkjaaGreatDoorLKind
import Derived.Test.YtdoifaifhikkjaaGreatDoorLIdx
set_option linter.unusedSimpArgs false
set_option linter.unusedVariables false
namespace Go.Proofs.YtdoifaifhikkjaaGreatDoor
open Go.RowKit Go.Lib

def sxL : List (List UInt8) := [[], [58, 108, 101, 102, 116], [58, 114, 105, 103, 104, 116]]
/-- What stands ahead of suffix j, and whether that suffix is there. -/
def stem (l : List UInt8) (j : Nat) : ByteArray := bs (Lib.trimSuffix l (sxL.getD j []))
def hasS (l : List UInt8) (j : Nat) : Bool := Lib.hasSuffix l (sxL.getD j [])
/-- What the word names: an index, a side, and whether it names something: from side j on. -/
def parF (f : Idx) (l : List UInt8) : Nat → Nat → Int × Int × Bool
  | 0, _ => (0, 0, false)
  | n + 1, j => if (f (stem l j)).isSome = true ∧ hasS l j = true then (gI f (stem l j), (j : Int), true) else parF f l n (j + 1)
def parV (f : Idx) (l : List UInt8) : Int × Int × Bool := parF f l 3 0
theorem parF_hit {f : Idx} {l : List UInt8} {n j : Nat} (h : (f (stem l j)).isSome = true ∧ hasS l j = true) : parF f l (n + 1) j = (gI f (stem l j), (j : Int), true) := by
  show (if _ then _ else _) = _
  rw [if_pos h]
theorem parF_miss {f : Idx} {l : List UInt8} {n j : Nat} (h : ¬ ((f (stem l j)).isSome = true ∧ hasS l j = true)) : parF f l (n + 1) j = parF f l n (j + 1) := by
  show (if _ then _ else _) = _
  rw [if_neg h]
abbrev R3 (t : Int × Int × Bool) : Value := .tuple #[.int .i64 t.1, .int .i64 t.2.1, .bool t.2.2]
theorem infoSx : (Tryz.prog.info? 71).map (·.size) = some sfV.toArray.size := by kernel_rfl
theorem ixS0 (w : World) : (Instr.index 71 (.agg sfV.toArray) (.int .i64 0)).run Tryz.prog w = .ok (.string ⟨#[]⟩) w := by kernel_rfl
theorem ixS1 (w : World) : (Instr.index 71 (.agg sfV.toArray) (.int .i64 1)).run Tryz.prog w = .ok (.string ⟨#[58, 108, 101, 102, 116]⟩) w := by kernel_rfl
theorem ixS2 (w : World) : (Instr.index 71 (.agg sfV.toArray) (.int .i64 2)).run Tryz.prog w = .ok (.string ⟨#[58, 114, 105, 103, 104, 116]⟩) w := by kernel_rfl
theorem ixS {j : Nat} (hj : j < 3) (w : World) : (Instr.index 71 (.agg sfV.toArray) (.int .i64 (j : Int))).run Tryz.prog w = .ok (.string (bs (sxL.getD j []))) w := by
  have h' : j = 0 ∨ j = 1 ∨ j = 2 := by omega
  rcases h' with rfl | rfl | rfl
  · exact ixS0 w
  · exact ixS1 w
  · exact ixS2 w
theorem stem_size (l : List UInt8) (j : Nat) : (stem l j).size ≤ l.length := by
  show (Lib.trimSuffix l (sxL.getD j [])).length ≤ _
  unfold Lib.trimSuffix
  split
  · rw [List.length_take]; omega
  · exact Nat.le_refl _
set_option maxRecDepth 100000 in
set_option maxHeartbeats 3200000 in
theorem par_any (b mb n : Nat) (f : Idx) (s : ByteArray) (w : World) (hm : w.cell? ⟨b, 1, none⟩ = some (.map (some mb))) (M : IMap w mb n f) (hs : s.size ≤ maxLen) (D : Dor w) :
    Calls Tryz.prog 36 #[.pointer (some ⟨b, 0, none⟩), .string s] w fun e w' => e = .returned (R3 (parV f s.data.toList)) ∧ Below w.heap.size w w' := by
  have HM := Lib.hid M
  obtain ⟨t, fr, hkh⟩ := var_heap D.vs gSf
  have HC := Lib.hid (fun j W => (show Calls Tryz.prog 51 #[.string s, .string (bs (sxL.getD j []))] W (fun e w' => e = .returned (.tuple #[.string (stem s.data.toList j), .bool (hasS s.data.toList j)]) ∧ w' = W) from Any.strings_CutSuffix cutS s (bs (sxL.getD j [])) W (by unfold maxLen at hs; exact hs)))
  have HZ := Lib.hid (fun j => Nat.le_trans (stem_size s.data.toList j) hs)
  clear M D hs
  go_enter Tryz.func36, Tryz.ntmps36
  go_upto_region 1 with fail
  refine wp_region_lit ?_
  refine wpList_load_row rfl _ _ rfl 1 rfl _ _ fr _ hkh Tryz.underlying71 rfl infoSx ?_
  clear hkh
  have HIX := Lib.hid (fun j hj w => ixS (j := j) hj w)
  generalize Value.agg sfV.toArray = ka at HIX ⊢
  go_wp2_with fail
  go_loopw [14] (fun i wr => w = wr ∧ ∃ j : Nat, j ≤ 3 ∧ i = .int .i64 j ∧ Hid (parV f s.data.toList = parF f s.data.toList (3 - j) j)) (fun i _ => 3 - (intOf i).toNat)
  case atStart => exact ⟨rfl, 0, by omega, rfl, Lib.hid rfl⟩
  case round =>
    obtain ⟨rfl, j, hj, rfl, V⟩ := hrel
    by_cases hlt : j < 3
    · have i0 := HIX.out j hlt w
      have HCj := Lib.hid (HC.out j w)
      have hlk := HM.out.look (stem s.data.toList j) (HZ.out j)
      have HV := Lib.hid (show parF f s.data.toList (3 - j) j = (if (f (stem s.data.toList j)).isSome = true ∧ hasS s.data.toList j = true then (gI f (stem s.data.toList j), (j : Int), true) else parF f s.data.toList (3 - (j + 1)) (j + 1)) by
        obtain ⟨q, hq⟩ : ∃ q, 3 - j = q + 1 := ⟨3 - j - 1, by omega⟩
        rw [hq, show 3 - (j + 1) = q by omega]; rfl)
      generalize bs (sxL.getD j []) = sf at i0 HCj
      generalize gI f (stem s.data.toList j) = gv at hlk HV
      generalize (f (stem s.data.toList j)).isSome = hv at hlk HV
      generalize hasS s.data.toList j = hx at HCj HV
      generalize stem s.data.toList j = st at HCj hlk
      go_wp2_with fail
      refine HCj.out.mono ?_
      rintro e w' ⟨rfl, rfl⟩
      cases hv with
      | false =>
        have HVV := Lib.hid (V.out.trans (HV.out.trans (if_neg (by rintro ⟨g, _⟩; cases g))))
        clear HV i0 V
        go_wp2_with fail
        go_roundw
        case rel => exact ⟨trivial, j + 1, by omega, by go_num, HVV⟩
        case measure => simp [intOf]; omega
      | true =>
        cases hx with
        | false =>
          have HVV := Lib.hid (V.out.trans (HV.out.trans (if_neg (by rintro ⟨_, g⟩; cases g))))
          clear HV i0 V
          go_wp2_with fail
          go_roundw
          case rel => exact ⟨trivial, j + 1, by omega, by go_num, HVV⟩
          case measure => simp [intOf]; omega
        | true =>
          have HVV := Lib.hid (V.out.trans (HV.out.trans (if_pos ⟨rfl, rfl⟩)))
          clear HV i0 V
          go_wp2_with fail
          go_ret3
          exact ⟨by rw [HVV.out]; rfl, Below.refl _ _⟩
    · obtain rfl : j = 3 := by omega
      clear hj hlt
      go_wp2_with fail
      go_ret3
      exact ⟨by rw [V.out]; rfl, Below.refl _ _⟩
end Go.Proofs.YtdoifaifhikkjaaGreatDoor
