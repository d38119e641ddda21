/-
  The maker's Number: a valid number of twelve digits.
-/
import Derived.Test.YtgiodpepjajlmaaMkDigits
import Derived.Test.YtgiodpepjajlmaaSum
import Derived.Laws.IdiomStrings
set_option linter.unusedSimpArgs false
set_option linter.unusedVariables false
namespace Go.Proofs.Ytgiodpepjajlmaa
open Go.RowKit

/-- The bytes of a string as numbers. -/
def nums (s : ByteArray) : List Int := s.data.toList.map fun b => (b.toNat : Int)
theorem nums_length (s : ByteArray) : (nums s).length = s.size := by unfold nums; rw [List.length_map]; rfl
theorem nums_getD (s : ByteArray) (j : Nat) (hj : j < s.size) : (nums s).getD j 0 = (s[j].toNat : Int) := by
  have h : j < s.data.toList.length := by simpa using hj
  rw [List.getD_eq_getElem?_getD]
  simp [nums, List.getElem?_map, List.getElem?_eq_getElem h]
  rfl
theorem strOfNums_nums (s : ByteArray) : strOfNums (nums s) = s := by
  have e : (strOfNums (nums s)).data.toList = s.data.toList := by
    rw [strOfNums_data]
    unfold nums
    rw [List.map_map]
    conv => rhs; rw [← List.map_id s.data.toList]
    refine List.map_congr_left fun c _ => ?_
    simp
  cases s
  unfold strOfNums at e ⊢
  simp only at e ⊢
  congr 1
  exact Array.toList_inj.1 (by simpa using e)

theorem Byts.ofString {w : World} {s : ByteArray} {c : Nat} {T : TypeId} (b : Nat) (hb : b = w.heap.size) :
    Byts (w.drew.alloc (.cells (bytesRow s c) T ((bytesRow s c).size, (bytesRow s c).size + 1))) b (nums s) := by
  subst hb
  have e : (w.drew.alloc (.cells (bytesRow s c) T ((bytesRow s c).size, (bytesRow s c).size + 1))).heap[w.heap.size]? = some (.cells (bytesRow s c) T ((bytesRow s c).size, (bytesRow s c).size + 1)) := by
    show (w.heap.push _)[w.heap.size]? = _
    rw [Array.getElem?_push, if_pos rfl]
  have hsz : s.size ≤ (bytesRow s c).size := by unfold bytesRow; rw [Array.size_append, Array.size_map]; exact Nat.le_add_right _ _
  refine ⟨fun j hj => ?_, fun j hj => ?_, by show w.heap.size < (w.heap.push _).size; simp⟩
  · rw [nums_length] at hj
    rw [nums_getD s j hj]
    unfold World.cell?
    rw [e]
    simp only [Option.isSome_none, Bool.false_eq_true, if_false]
    unfold bytesRow
    have hj' : j < s.data.size := hj
    rw [Array.getElem?_append_left (by simpa using hj')]
    simp [hj']
    exact ⟨s.data[j], by simp, rfl⟩
  · rw [nums_length] at hj
    unfold World.frozen?
    rw [e]
    simp
    omega

/-- string([]byte{v}). -/
theorem one_byte (W : World) (v : Int) : (convert 70 9 (.slice (some ⟨W.heap.size, 0, none⟩) 1 1)).run Try.prog (W.alloc (.cells #[.int .u8 v] 5)) = .ok (.string (strOfNums [v])) (W.alloc (.cells #[.int .u8 v] 5)) :=
  run_convert_bytes_arg _ 70 5 Try.underlying70 Try.underlying5 W.heap.size 0 1 1 [v] rfl (fun i hi => by
    obtain rfl : i = 0 := by omega
    rw [Nat.zero_add, cell_new]; rfl) 9 Try.underlying9

theorem bytes_of (w : World) (s : ByteArray) : (convert 9 70 (.string s)).run Try.prog w = .ok (.slice (some ⟨w.heap.size, 0, none⟩) s.size (grownCap w s.size 0 5))
      (w.drew.alloc (.cells (bytesRow s (grownCap w s.size 0 5)) 5 ((bytesRow s (grownCap w s.size 0 5)).size, (bytesRow s (grownCap w s.size 0 5)).size + 1))) :=
  run_bytes_of_string w 9 70 5 s Try.underlying9 Try.underlying70 Try.underlying5

theorem rdigit_ok (s : ByteArray) (w : World) (h : dgs s 11 = true) :
    Calls Try.prog 51 #[.string s] w fun e w' => e = .returned (.tuple #[.int .i64 (chkS s.data.toList), .int .i64 0]) ∧ w = w' := by
  have g := rdigit_any s w
  have e : digitR s = (chkS s.data.toList, 0) := if_pos h
  rw [e] at g
  exact g

theorem strOfNums_getD (xs : List Int) (j : Nat) (hj : j < xs.length) (d : UInt8) : (strOfNums xs).data.toList.getD j d = UInt8.ofNat (xs.getD j 0).toNat := by
  rw [strOfNums_data, List.getD_eq_getElem?_getD, List.getElem?_map, List.getElem?_eq_getElem hj, List.getD_eq_getElem?_getD, List.getElem?_eq_getElem hj]
  rfl
theorem strOfNums_append (xs ys : List Int) : strOfNums xs ++ strOfNums ys = strOfNums (xs ++ ys) := by
  unfold strOfNums
  rw [List.map_append]
  show (ByteArray.append _ _) = _
  cases xs <;> simp [ByteArray.append_eq, ByteArray.ext_iff]

/-- Eleven digits and their check digit. -/
theorem num_ok {xs : List Int} (hx : xs.length = 11) (hd : ∀ j, j < 11 → 48 ≤ xs.getD j 0 ∧ xs.getD j 0 ≤ 57) :
    dgs (strOfNums (xs ++ [48 + chkS (strOfNums xs).data.toList])) 12 = true ∧ validS (strOfNums (xs ++ [48 + chkS (strOfNums xs).data.toList])) = 0 := by
  have hc := chk_bd (strOfNums xs).data.toList
  generalize hg : chkS (strOfNums xs).data.toList = c at *
  have h12 : (xs ++ [48 + c]).length = 12 := by simp [hx]
  have g1 : dgs (strOfNums (xs ++ [48 + c])) 12 = true := by
    rw [← h12]
    refine dgs_strOfNums fun j hj => ?_
    by_cases e : j < 11
    · rw [List.getD_eq_getElem?_getD, List.getElem?_append_left (by omega), ← List.getD_eq_getElem?_getD]; exact hd j e
    · obtain rfl : j = 11 := by omega
      rw [List.getD_eq_getElem?_getD, List.getElem?_append_right (by omega), hx]
      show 48 ≤ 48 + c ∧ 48 + c ≤ 57
      omega
  refine ⟨g1, validR_ok g1 ?_⟩
  unfold oks
  have e1 : (strOfNums (xs ++ [48 + c])).data.toList = (strOfNums xs).data.toList ++ [UInt8.ofNat (48 + c).toNat] := by
    rw [strOfNums_data, List.map_append, strOfNums_data]; rfl
  have hl : (strOfNums xs).data.toList.length = 11 := by rw [strOfNums_data, List.length_map, hx]
  rw [e1, sumTo_append _ _ _ (by omega)]
  have e2 : ((strOfNums xs).data.toList ++ [UInt8.ofNat (48 + c).toNat]).getD 11 48 = UInt8.ofNat (48 + c).toNat := by
    rw [List.getD_eq_getElem?_getD, List.getElem?_append_right (by omega), hl]; rfl
  rw [e2]
  have e3 : dv (UInt8.ofNat (48 + c).toNat) = c := by unfold dv; rw [UInt8.toNat_ofNat']; omega
  rw [e3]
  refine decide_eq_true ?_
  rw [← hg]
  unfold chkS
  omega

/-- A valid number, whose digits 8 to 10 are those of i. -/
def IsNum (i : Int) (t : ByteArray) : Prop := dgs t 12 = true ∧ validS t = 0 ∧ t.data.toList.getD 8 0 = UInt8.ofNat (48 + i / 100 % 10).toNat ∧ t.data.toList.getD 9 0 = UInt8.ofNat (48 + i / 10 % 10).toNat ∧ t.data.toList.getD 10 0 = UInt8.ofNat (48 + i % 10).toNat

set_option maxHeartbeats 1600000 in
theorem mnumber_any (m N : Nat) (i : Int) (w : World) (h : IsMk w m N) (hN : N ≤ 10000000000) (i1 : 0 ≤ i) (i2 : i ≤ 1000000) :
    Calls Try.prog 38 #[.pointer (some ⟨m, 0, none⟩), .int .i64 i] w (StrPost m (N + 11) (IsNum i) w) := by
  have hm := h.lt
  have hcv := bytes_of
  have hob := one_byte
  go_enter Try.func38, Try.ntmps38
  go_wp2_with fail
  refine (mdigits_any m N 11 w h (by omega) (by omega)).mono ?_
  rintro e w1 ⟨s, rfl, hs, k1, k2⟩
  obtain ⟨hz, hd⟩ := dgs_t hs
  have HD := Lib.hid hd
  have HSs := Lib.hid hs
  clear hs hd
  go_upto_region 2 with fail
  generalize grownCap w1 11 0 5 = cap at *
  have B0 : Byts ((w1.alloc (.cells (bytesRow s cap) 5 ((bytesRow s cap).size, (bytesRow s cap).size + 1))).drew) w1.heap.size (nums s) := Byts.ofString _ rfl
  have M0 : IsMk ((w1.alloc (.cells (bytesRow s cap) 5 ((bytesRow s cap).size, (bytesRow s cap).size + 1))).drew) m (N + 11) := (k1.stays' ((Below.refl _ _).alloc (Nat.le_refl _) _)).drew
  have V0 : Moves m w ((w1.alloc (.cells (bytesRow s cap) 5 ((bytesRow s cap).size, (bytesRow s cap).size + 1))).drew) := (k2.alloc _).drewN (n := 1)
  generalize ((w1.alloc (.cells (bytesRow s cap) 5 ((bytesRow s cap).size, (bytesRow s cap).size + 1))).drew) = wq at *
  have hb : m < w1.heap.size := k1.lt
  have hw : w.heap.size ≤ w1.heap.size := k2.size
  have hl : (nums s).length = 11 := by rw [nums_length, hz]
  have c8 := B0.cs 8 (by omega)
  have c9 := B0.cs 9 (by omega)
  have c10 := B0.cs 10 (by omega)
  have f8 := B0.fs 8 (by omega)
  have f9 := B0.fs 9 (by omega)
  have f10 := B0.fs 10 (by omega)
  have B3 : Byts (((wq.setCell ⟨w1.heap.size, 8, none⟩ (.int .u8 (48 + i / 100 % 10))).setCell ⟨w1.heap.size, 9, none⟩ (.int .u8 (48 + i / 10 % 10))).setCell ⟨w1.heap.size, 10, none⟩ (.int .u8 (48 + i % 10))) w1.heap.size ((((nums s).set 8 (48 + i / 100 % 10)).set 9 (48 + i / 10 % 10)).set 10 (48 + i % 10)) :=
    ((B0.store 8 (by omega) _).store 9 (by rw [List.length_set]; omega) _).store 10 (by rw [List.length_set, List.length_set]; omega) _
  have M3 : IsMk (((wq.setCell ⟨w1.heap.size, 8, none⟩ (.int .u8 (48 + i / 100 % 10))).setCell ⟨w1.heap.size, 9, none⟩ (.int .u8 (48 + i / 10 % 10))).setCell ⟨w1.heap.size, 10, none⟩ (.int .u8 (48 + i % 10))) m (N + 11) := ((M0.setCell hb _).setCell hb _).setCell hb _
  have V3 : Moves m w (((wq.setCell ⟨w1.heap.size, 8, none⟩ (.int .u8 (48 + i / 100 % 10))).setCell ⟨w1.heap.size, 9, none⟩ (.int .u8 (48 + i / 10 % 10))).setCell ⟨w1.heap.size, 10, none⟩ (.int .u8 (48 + i % 10))) :=
    Moves.setCell (m := m) (Moves.setCell (m := m) (Moves.setCell (m := m) V0 (Or.inr hw) _) (Or.inr hw) _) (Or.inr hw) _
  go_upto_region 3 with fail
  have hx : ((((nums s).set 8 (48 + i / 100 % 10)).set 9 (48 + i / 10 % 10)).set 10 (48 + i % 10)).length = 11 := by rw [List.length_set, List.length_set, List.length_set, hl]
  have hd : ∀ j, j < 11 → 48 ≤ ((((nums s).set 8 (48 + i / 100 % 10)).set 9 (48 + i / 10 % 10)).set 10 (48 + i % 10)).getD j 0 ∧ ((((nums s).set 8 (48 + i / 100 % 10)).set 9 (48 + i / 10 % 10)).set 10 (48 + i % 10)).getD j 0 ≤ 57 := fun j hj => by
    rw [getD_set _ _ _ _ (by rw [List.length_set, List.length_set]; omega), getD_set _ _ _ _ (by rw [List.length_set]; omega), getD_set _ _ _ _ (by omega)]
    have := dig_all HD.out j (by omega)
    rw [nums_getD s j (by omega)]
    split
    · omega
    · split
      · omega
      · split
        · omega
        · omega
  have h8 : ((((nums s).set 8 (48 + i / 100 % 10)).set 9 (48 + i / 10 % 10)).set 10 (48 + i % 10)).getD 8 0 = 48 + i / 100 % 10 := by
    rw [getD_set _ _ _ _ (by rw [List.length_set, List.length_set]; omega), getD_set _ _ _ _ (by rw [List.length_set]; omega), getD_set _ _ _ _ (by omega)]; rfl
  have h9 : ((((nums s).set 8 (48 + i / 100 % 10)).set 9 (48 + i / 10 % 10)).set 10 (48 + i % 10)).getD 9 0 = 48 + i / 10 % 10 := by
    rw [getD_set _ _ _ _ (by rw [List.length_set, List.length_set]; omega), getD_set _ _ _ _ (by rw [List.length_set]; omega)]; rfl
  have h10 : ((((nums s).set 8 (48 + i / 100 % 10)).set 9 (48 + i / 10 % 10)).set 10 (48 + i % 10)).getD 10 0 = 48 + i % 10 := by
    rw [getD_set _ _ _ _ (by rw [List.length_set, List.length_set]; omega)]; rfl
  generalize ((((nums s).set 8 (48 + i / 100 % 10)).set 9 (48 + i / 10 % 10)).set 10 (48 + i % 10)) = xs at *
  generalize (((wq.setCell ⟨w1.heap.size, 8, none⟩ (.int .u8 (48 + i / 100 % 10))).setCell ⟨w1.heap.size, 9, none⟩ (.int .u8 (48 + i / 10 % 10))).setCell ⟨w1.heap.size, 10, none⟩ (.int .u8 (48 + i % 10))) = wt at *
  have hc := fun (cap : Nat) => B3.str (P := Try.prog) (cap := cap) 70 5 9 Try.underlying70 Try.underlying5 Try.underlying9
  rw [hx] at hc
  have hn := num_ok hx hd
  have hdg := dgs_strOfNums (xs := xs) (fun j hj => hd j (by omega))
  rw [hx] at hdg
  have HX := Lib.hid (And.intro hx (And.intro h8 (And.intro h9 h10)))
  have HN := Lib.hid hn
  have HG := Lib.hid hdg
  obtain ⟨q1, q2⟩ := chk_bd (strOfNums xs).data.toList
  clear hx hd h8 h9 h10 hn hdg c8 c9 c10 f8 f9 f10 B0 M0 V0 hl
  go_wp2_with fail
  refine (rdigit_ok _ _ HG.out).mono ?_
  rintro e w' ⟨rfl, rfl⟩
  generalize chkS (strOfNums xs).data.toList = c at *
  have z1 : (strOfNums xs).size = 11 := by rw [strOfNums_size]; exact HX.out.1
  have z2 : (strOfNums [48 + c]).size = 1 := by rw [strOfNums_size]; rfl
  go_wp2_with fail
  go_ret
  refine ⟨_, rfl, ?_, M3.alloc _, V3.alloc _⟩
  rw [strOfNums_append]
  obtain ⟨hx, h8, h9, h10⟩ := HX.out
  have hl12 : (xs ++ [48 + c]).length = 12 := by simp [hx]
  refine ⟨HN.out.1, HN.out.2, ?_, ?_, ?_⟩
  · rw [strOfNums_getD _ _ (by omega), List.getD_eq_getElem?_getD, List.getElem?_append_left (by omega), ← List.getD_eq_getElem?_getD, h8]
  · rw [strOfNums_getD _ _ (by omega), List.getD_eq_getElem?_getD, List.getElem?_append_left (by omega), ← List.getD_eq_getElem?_getD, h9]
  · rw [strOfNums_getD _ _ (by omega), List.getD_eq_getElem?_getD, List.getElem?_append_left (by omega), ← List.getD_eq_getElem?_getD, h10]

end Go.Proofs.Ytgiodpepjajlmaa
