/-
  The maker's Number: a valid number of twelve digits.
-/
import Derived.Test.YtdoifaifhikkjaaGreatDoorMkDigits
import Derived.Test.YtdoifaifhikkjaaGreatDoorSum
import Derived.Laws.IdiomStrings
set_option linter.unusedSimpArgs false
set_option linter.unusedVariables false
namespace Go.Proofs.YtdoifaifhikkjaaGreatDoor
open Go.RowKit

/-- The bytes of a string as numbers. -/
def nums (s : ByteArray) : List Int := s.data.toList.map fun b => (b.toNat : Int)
theorem nums_length (s : ByteArray) : (nums s).length = s.size := by unfold nums; rw [List.length_map]; rfl
theorem nums_getD (s : ByteArray) (j : Nat) (hj : j < s.size) : (nums s).getD j 0 = (s[j].toNat : Int) := by
  have h : j < s.data.toList.length := by simpa using hj
  rw [List.getD_eq_getElem?_getD]
  simp [nums, List.getElem?_map, List.getElem?_eq_getElem h]
  rfl
theorem strOfNums_nums (s : ByteArray) : strOfNums (nums s) = s := by
  have e : (strOfNums (nums s)).data.toList = s.data.toList := by
    rw [strOfNums_data]
    unfold nums
    rw [List.map_map]
    conv => rhs; rw [← List.map_id s.data.toList]
    refine List.map_congr_left fun c _ => ?_
    simp
  cases s
  unfold strOfNums at e ⊢
  simp only at e ⊢
  congr 1
  exact Array.toList_inj.1 (by simpa using e)

theorem Byts.ofString {w : World} {s : ByteArray} {c : Nat} {T : TypeId} (b : Nat) (hb : b = w.heap.size) :
    Byts (w.drew.alloc (.cells (bytesRow s c) T ((bytesRow s c).size, (bytesRow s c).size + 1))) b (nums s) := by
  subst hb
  have e : (w.drew.alloc (.cells (bytesRow s c) T ((bytesRow s c).size, (bytesRow s c).size + 1))).heap[w.heap.size]? = some (.cells (bytesRow s c) T ((bytesRow s c).size, (bytesRow s c).size + 1)) := by
    show (w.heap.push _)[w.heap.size]? = _
    rw [Array.getElem?_push, if_pos rfl]
  have hsz : s.size ≤ (bytesRow s c).size := by unfold bytesRow; rw [Array.size_append, Array.size_map]; exact Nat.le_add_right _ _
  refine ⟨fun j hj => ?_, fun j hj => ?_, by show w.heap.size < (w.heap.push _).size; simp⟩
  · rw [nums_length] at hj
    rw [nums_getD s j hj]
    unfold World.cell?
    rw [e]
    simp only [Option.isSome_none, Bool.false_eq_true, if_false]
    unfold bytesRow
    have hj' : j < s.data.size := hj
    rw [Array.getElem?_append_left (by simpa using hj')]
    simp [hj']
    exact ⟨s.data[j], by simp, rfl⟩
  · rw [nums_length] at hj
    unfold World.frozen?
    rw [e]
    simp
    omega

/-- string([]byte{v}). -/
theorem one_byte (W : World) (v : Int) : (convert 47 9 (.slice (some ⟨W.heap.size, 0, none⟩) 1 1)).run Tryz.prog (W.alloc (.cells #[.int .u8 v] 5)) = .ok (.string (strOfNums [v])) (W.alloc (.cells #[.int .u8 v] 5)) :=
  run_convert_bytes_arg _ 47 5 Tryz.underlying47 Tryz.underlying5 W.heap.size 0 1 1 [v] rfl (fun i hi => by
    obtain rfl : i = 0 := by omega
    rw [Nat.zero_add, cell_new]; rfl) 9 Tryz.underlying9

theorem bytes_of (w : World) (s : ByteArray) : (convert 9 47 (.string s)).run Tryz.prog w = .ok (.slice (some ⟨w.heap.size, 0, none⟩) s.size (grownCap w s.size 0 5))
      (w.drew.alloc (.cells (bytesRow s (grownCap w s.size 0 5)) 5 ((bytesRow s (grownCap w s.size 0 5)).size, (bytesRow s (grownCap w s.size 0 5)).size + 1))) :=
  run_bytes_of_string w 9 47 5 s Tryz.underlying9 Tryz.underlying47 Tryz.underlying5

theorem strOfNums_getD (xs : List Int) (j : Nat) (hj : j < xs.length) (d : UInt8) : (strOfNums xs).data.toList.getD j d = UInt8.ofNat (xs.getD j 0).toNat := by
  rw [strOfNums_data, List.getD_eq_getElem?_getD, List.getElem?_map, List.getElem?_eq_getElem hj, List.getD_eq_getElem?_getD, List.getElem?_eq_getElem hj]
  rfl
theorem strOfNums_append (xs ys : List Int) : strOfNums xs ++ strOfNums ys = strOfNums (xs ++ ys) := by
  unfold strOfNums
  rw [List.map_append]
  show (ByteArray.append _ _) = _
  cases xs <;> simp [ByteArray.append_eq, ByteArray.ext_iff]

/-- Eleven digits and their check digit. -/
theorem num_ok {xs : List Int} (hx : xs.length = 11) (hd : ∀ j, j < 11 → 48 ≤ xs.getD j 0 ∧ xs.getD j 0 ≤ 57) :
    dgs (strOfNums (xs ++ [48 + chkS (strOfNums xs).data.toList])) 12 = true ∧ validS (strOfNums (xs ++ [48 + chkS (strOfNums xs).data.toList])) = 0 := by
  have hc := chk_bd (strOfNums xs).data.toList
  generalize hg : chkS (strOfNums xs).data.toList = c at *
  have h12 : (xs ++ [48 + c]).length = 12 := by simp [hx]
  have g1 : dgs (strOfNums (xs ++ [48 + c])) 12 = true := by
    rw [← h12]
    refine dgs_strOfNums fun j hj => ?_
    by_cases e : j < 11
    · rw [List.getD_eq_getElem?_getD, List.getElem?_append_left (by omega), ← List.getD_eq_getElem?_getD]; exact hd j e
    · obtain rfl : j = 11 := by omega
      rw [List.getD_eq_getElem?_getD, List.getElem?_append_right (by omega), hx]
      show 48 ≤ 48 + c ∧ 48 + c ≤ 57
      omega
  refine ⟨g1, validR_ok g1 ?_⟩
  unfold oks
  have e1 : (strOfNums (xs ++ [48 + c])).data.toList = (strOfNums xs).data.toList ++ [UInt8.ofNat (48 + c).toNat] := by
    rw [strOfNums_data, List.map_append, strOfNums_data]; rfl
  have hl : (strOfNums xs).data.toList.length = 11 := by rw [strOfNums_data, List.length_map, hx]
  rw [e1, sumTo_append _ _ _ (by omega)]
  have e2 : ((strOfNums xs).data.toList ++ [UInt8.ofNat (48 + c).toNat]).getD 11 48 = UInt8.ofNat (48 + c).toNat := by
    rw [List.getD_eq_getElem?_getD, List.getElem?_append_right (by omega), hl]; rfl
  rw [e2]
  have e3 : dv (UInt8.ofNat (48 + c).toNat) = c := by unfold dv; rw [UInt8.toNat_ofNat']; omega
  rw [e3]
  refine decide_eq_true ?_
  rw [← hg]
  unfold chkS
  omega

/-- A valid number, whose digits 8 to 10 are those of i. -/
def IsNum (i : Int) (t : ByteArray) : Prop := dgs t 12 = true ∧ validS t = 0 ∧ t.data.toList.getD 8 0 = UInt8.ofNat (48 + i / 100 % 10).toNat ∧ t.data.toList.getD 9 0 = UInt8.ofNat (48 + i / 10 % 10).toNat ∧ t.data.toList.getD 10 0 = UInt8.ofNat (48 + i % 10).toNat

end Go.Proofs.YtdoifaifhikkjaaGreatDoor
