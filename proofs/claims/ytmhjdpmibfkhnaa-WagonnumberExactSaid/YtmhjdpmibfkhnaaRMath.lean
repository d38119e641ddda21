/-
  Stage 2, no program: the replaced and the exchanged strings, byte by byte; that no two of them are equal.
-/
import Derived.Test.YtmhjdpmibfkhnaaRep
import Derived.Test.YtmhjdpmibfkhnaaPFmt
set_option linter.unusedSimpArgs false
set_option linter.unusedVariables false
namespace Go.Proofs.Ytmhjdpmibfkhnaa
open Go.RowKit

theorem twelve {s : ByteArray} (h : s.size = 12) : ∃ b0 b1 b2 b3 b4 b5 b6 b7 b8 b9 b10 b11, s = ⟨#[b0, b1, b2, b3, b4, b5, b6, b7, b8, b9, b10, b11]⟩ := by
  obtain ⟨⟨l⟩⟩ := s
  have hl : l.length = 12 := h
  match l, hl with
  | [b0, b1, b2, b3, b4, b5, b6, b7, b8, b9, b10, b11], _ => exact ⟨_, _, _, _, _, _, _, _, _, _, _, _, rfl⟩

/-- The digit k as a byte. -/
abbrev dg (k : Nat) : UInt8 := UInt8.ofNat (48 + k)
theorem one_list (k : Nat) : (strOfNums [48 + (k : Int)]).data.toList = [dg k] := by
  rw [strOfNums_data]
  show [UInt8.ofNat (48 + (k : Int)).toNat] = _
  rw [show (48 + (k : Int)).toNat = 48 + k by omega]

theorem rep_list {s : ByteArray} (h : s.size = 12) (i k : Nat) (hi : i < 12) : (rep1 s i k).data.toList = s.data.toList.set i (dg k) := by
  obtain ⟨b0, b1, b2, b3, b4, b5, b6, b7, b8, b9, b10, b11, rfl⟩ := twelve h
  unfold rep1
  rw [ByteArray.data_append, ByteArray.data_append, Array.toList_append, Array.toList_append, one_list, ByteArray.data_extract, ByteArray.data_extract, Array.toList_extract, Array.toList_extract]
  generalize dg k = c
  have e : i = 0 ∨ i = 1 ∨ i = 2 ∨ i = 3 ∨ i = 4 ∨ i = 5 ∨ i = 6 ∨ i = 7 ∨ i = 8 ∨ i = 9 ∨ i = 10 ∨ i = 11 := by omega
  rcases e with rfl | rfl | rfl | rfl | rfl | rfl | rfl | rfl | rfl | rfl | rfl | rfl <;> rfl

theorem exc_list {s : ByteArray} (h : s.size = 12) (i : Nat) (hi : i < 11) : (exc1 s i).data.toList = (s.data.toList.set i (s.data.toList.getD (i + 1) 48)).set (i + 1) (s.data.toList.getD i 48) := by
  obtain ⟨b0, b1, b2, b3, b4, b5, b6, b7, b8, b9, b10, b11, rfl⟩ := twelve h
  unfold exc1
  rw [ByteArray.data_append, ByteArray.data_append, ByteArray.data_append, Array.toList_append, Array.toList_append, Array.toList_append, ByteArray.data_extract, ByteArray.data_extract, ByteArray.data_extract, ByteArray.data_extract, Array.toList_extract, Array.toList_extract, Array.toList_extract, Array.toList_extract]
  have e : i = 0 ∨ i = 1 ∨ i = 2 ∨ i = 3 ∨ i = 4 ∨ i = 5 ∨ i = 6 ∨ i = 7 ∨ i = 8 ∨ i = 9 ∨ i = 10 := by omega
  rcases e with rfl | rfl | rfl | rfl | rfl | rfl | rfl | rfl | rfl | rfl | rfl <;> rfl

/-- Byte j of a string. -/
abbrev bt (s : ByteArray) (j : Nat) : UInt8 := s.data.toList.getD j 48
theorem getD_set8 (xs : List UInt8) (i j : Nat) (v d : UInt8) (hi : i < xs.length) : (xs.set i v).getD j d = if j = i then v else xs.getD j d := by
  rw [List.getD_eq_getElem?_getD, List.getElem?_set]
  by_cases e : i = j
  · subst e; rw [if_pos rfl, if_pos hi, if_pos rfl]; rfl
  · rw [if_neg e, if_neg (Ne.symm e), List.getD_eq_getElem?_getD]
theorem len_data (s : ByteArray) : s.data.toList.length = s.size := rfl
theorem rep_size {s : ByteArray} (h : s.size = 12) (i k : Nat) (hi : i < 12) : (rep1 s i k).size = 12 := by
  rw [← len_data, rep_list h i k hi, List.length_set, len_data, h]
theorem exc_size {s : ByteArray} (h : s.size = 12) (i : Nat) (hi : i < 11) : (exc1 s i).size = 12 := by
  rw [← len_data, exc_list h i hi, List.length_set, List.length_set, len_data, h]
theorem bt_rep {s : ByteArray} (h : s.size = 12) (i k j : Nat) (hi : i < 12) : bt (rep1 s i k) j = if j = i then dg k else bt s j := by
  unfold bt
  rw [rep_list h i k hi, getD_set8 _ _ _ _ _ (by rw [len_data]; omega)]
theorem bt_exc {s : ByteArray} (h : s.size = 12) (i j : Nat) (hi : i < 11) : bt (exc1 s i) j = if j = i + 1 then bt s i else if j = i then bt s (i + 1) else bt s j := by
  unfold bt
  rw [exc_list h i hi, getD_set8 _ _ _ _ _ (by rw [List.length_set, len_data]; omega), getD_set8 _ _ _ _ _ (by rw [len_data]; omega)]
theorem bt_ext {s t : ByteArray} (h : s.size = 12) (k : t.size = 12) (e : ∀ j, j < 12 → bt s j = bt t j) : s = t := by
  refine bytes_ext (List.ext_getElem (by rw [len_data, len_data, h, k]) fun j h1 h2 => ?_)
  have := e j (by rw [len_data, h] at h1; exact h1)
  unfold bt at this
  rw [List.getD_eq_getElem?_getD, List.getD_eq_getElem?_getD, List.getElem?_eq_getElem h1, List.getElem?_eq_getElem h2] at this
  exact this
theorem dg_nat (k : Nat) (h : k < 10) : (dg k).toNat = 48 + k := by
  rw [UInt8.toNat_ofNat']; omega
theorem bt_dig {s : ByteArray} (hd : s.data.toList.all dig = true) (j : Nat) (hj : j < s.size) : 48 ≤ (bt s j).toNat ∧ (bt s j).toNat ≤ 57 := by
  unfold bt; rw [getD_byte s j hj]; exact dig_all hd j hj
theorem all_of_bt {s : ByteArray} (h : ∀ j, j < s.size → 48 ≤ (bt s j).toNat ∧ (bt s j).toNat ≤ 57) : s.data.toList.all dig = true := by
  rw [List.all_eq_true]
  intro x hx
  obtain ⟨j, hj, rfl⟩ := List.mem_iff_getElem.1 hx
  have := h j hj
  unfold bt at this
  rw [List.getD_eq_getElem?_getD, List.getElem?_eq_getElem hj] at this
  exact decide_eq_true this
theorem dgs_mk {s : ByteArray} (h : s.size = 12) (d : s.data.toList.all dig = true) : dgs s 12 = true := by unfold dgs; simp [h, d]

theorem mem_repsAt {s x : ByteArray} {i n : Nat} : x ∈ repsAt s i n ↔ ∃ k, k < n ∧ 48 + k ≠ (bt s i).toNat ∧ x = rep1 s i k := by
  unfold repsAt
  simp only [List.mem_map, List.mem_filter, List.mem_range, bne_iff_ne]
  constructor
  · rintro ⟨k, ⟨h1, h2⟩, rfl⟩; exact ⟨k, h1, h2, rfl⟩
  · rintro ⟨k, h1, h2, rfl⟩; exact ⟨k, ⟨h1, h2⟩, rfl⟩
theorem mem_reps {s x : ByteArray} {n : Nat} : x ∈ reps s n ↔ ∃ i k, i < n ∧ k < 10 ∧ 48 + k ≠ (bt s i).toNat ∧ x = rep1 s i k := by
  unfold reps
  simp only [List.mem_flatMap, List.mem_range, mem_repsAt]
  constructor
  · rintro ⟨i, h1, k, h2, h3, rfl⟩; exact ⟨i, k, h1, h2, h3, rfl⟩
  · rintro ⟨i, k, h1, h2, h3, rfl⟩; exact ⟨i, h1, k, h2, h3, rfl⟩
theorem mem_excs {s x : ByteArray} {n : Nat} : x ∈ excs s n ↔ ∃ i, i < n ∧ (bt s i).toNat ≠ (bt s (i + 1)).toNat ∧ x = exc1 s i := by
  unfold excs
  simp only [List.mem_map, List.mem_filter, List.mem_range, bne_iff_ne]
  constructor
  · rintro ⟨k, ⟨h1, h2⟩, rfl⟩; exact ⟨k, h1, h2, rfl⟩
  · rintro ⟨k, h1, h2, rfl⟩; exact ⟨k, ⟨h1, h2⟩, rfl⟩

/-- All of them consist of twelve digits. -/
theorem dgs_rep {s : ByteArray} (h : dgs s 12 = true) (i k : Nat) (hi : i < 12) (hk : k < 10) : dgs (rep1 s i k) 12 = true := by
  obtain ⟨hz, hd⟩ := dgs_t h
  have z := rep_size hz i k hi
  refine dgs_mk z (all_of_bt fun j hj => ?_)
  rw [bt_rep hz i k j hi]
  split
  · rw [dg_nat k hk]; omega
  · exact bt_dig hd j (by omega)
theorem dgs_exc {s : ByteArray} (h : dgs s 12 = true) (i : Nat) (hi : i < 11) : dgs (exc1 s i) 12 = true := by
  obtain ⟨hz, hd⟩ := dgs_t h
  have z := exc_size hz i hi
  refine dgs_mk z (all_of_bt fun j hj => ?_)
  rw [bt_exc hz i j hi]
  split
  · exact bt_dig hd i (by omega)
  · split
    · exact bt_dig hd (i + 1) (by omega)
    · exact bt_dig hd j (by omega)

theorem rep_ne {s : ByteArray} (h : s.size = 12) {i k i' k' : Nat} (hi : i < 12) (hi' : i' < 12) (hk : k < 10) (hk' : k' < 10) (n : 48 + k ≠ (bt s i).toNat) (e : rep1 s i k = rep1 s i' k') : i = i' ∧ k = k' := by
  have g := congrArg (fun x => (bt x i).toNat) e
  simp only [bt_rep h _ _ _ hi, bt_rep h _ _ _ hi', if_pos] at g
  by_cases c : i = i'
  · refine ⟨c, ?_⟩
    rw [if_pos c, dg_nat k hk, dg_nat k' hk'] at g
    omega
  · rw [if_neg c, dg_nat k hk] at g
    exact absurd g n
theorem exc_ne {s : ByteArray} (h : s.size = 12) {i i' : Nat} (hi : i < 11) (hi' : i' < 11) (n : (bt s i).toNat ≠ (bt s (i + 1)).toNat) (lt : i < i') : exc1 s i ≠ exc1 s i' := fun e => by
  have g := congrArg (fun x => (bt x i).toNat) e
  simp only [bt_exc h _ _ hi, bt_exc h _ _ hi'] at g
  rw [if_neg (by omega), if_pos trivial, if_neg (by omega), if_neg (by omega)] at g
  exact n g.symm
theorem rep_ne_exc {s : ByteArray} (h : s.size = 12) {i k j : Nat} (hi : i < 12) (hj : j < 11) (n : (bt s j).toNat ≠ (bt s (j + 1)).toNat) : rep1 s i k ≠ exc1 s j := fun e => by
  by_cases c : j = i
  · have g := congrArg (fun x => (bt x (j + 1)).toNat) e
    simp only [bt_exc h _ _ hj, bt_rep h _ _ _ hi] at g
    rw [if_neg (by omega), if_pos trivial] at g
    exact n g.symm
  · have g := congrArg (fun x => (bt x j).toNat) e
    simp only [bt_exc h _ _ hj, bt_rep h _ _ _ hi] at g
    rw [if_neg c, if_neg (by omega), if_pos trivial] at g
    exact n g
theorem rep_self {s : ByteArray} (h : s.size = 12) {i k : Nat} (hi : i < 12) (hk : k < 10) : rep1 s i k = s ↔ 48 + k = (bt s i).toNat := by
  constructor
  · intro e
    have g := congrArg (fun x => (bt x i).toNat) e
    simp only [bt_rep h _ _ _ hi, if_pos] at g
    rw [dg_nat k hk] at g
    exact g
  · intro e
    refine bt_ext (rep_size h i k hi) h fun j hj => ?_
    rw [bt_rep h i k j hi]
    split
    · rename_i c; subst c
      apply UInt8.toNat_inj.1; rw [dg_nat k hk, e]
    · rfl

theorem reps_nodup {s : ByteArray} (h : s.size = 12) (n : Nat) (hn : n ≤ 12) : (reps s n).Nodup := by
  unfold reps List.Nodup
  rw [List.pairwise_flatMap]
  constructor
  · intro i hi
    rw [List.mem_range] at hi
    unfold repsAt
    rw [List.pairwise_map]
    refine List.Pairwise.imp_of_mem (R := fun a b => a < b) ?_ (List.Pairwise.filter _ List.pairwise_lt_range)
    intro a b ha hb lt e
    simp only [List.mem_filter, List.mem_range, bne_iff_ne] at ha hb
    have := (rep_ne h (by omega) (by omega) ha.1 hb.1 ha.2 e).2
    omega
  · refine List.Pairwise.imp_of_mem (R := fun a b => a < b) ?_ List.pairwise_lt_range
    intro a b ha hb lt x hx y hy e
    rw [List.mem_range] at ha hb
    obtain ⟨k, k1, k2, rfl⟩ := mem_repsAt.1 hx
    obtain ⟨k', k1', k2', rfl⟩ := mem_repsAt.1 hy
    have := (rep_ne h (by omega) (by omega) k1 k1' k2 e).1
    omega
theorem excs_nodup {s : ByteArray} (h : s.size = 12) (n : Nat) (hn : n ≤ 11) : (excs s n).Nodup := by
  unfold excs List.Nodup
  rw [List.pairwise_map]
  refine List.Pairwise.imp_of_mem (R := fun a b => a < b) ?_ (List.Pairwise.filter _ List.pairwise_lt_range)
  intro a b ha hb lt e
  simp only [List.mem_filter, List.mem_range, bne_iff_ne] at ha hb
  exact exc_ne h (by omega) (by omega) ha.2 lt e
theorem all_nodup {s : ByteArray} (h : s.size = 12) : (reps s 12 ++ excs s 11).Nodup := by
  rw [List.nodup_append]
  refine ⟨reps_nodup h 12 (by omega), excs_nodup h 11 (by omega), ?_⟩
  intro x hx y hy e
  obtain ⟨i, k, h1, _, _, rfl⟩ := mem_reps.1 hx
  obtain ⟨j, h2, h3, rfl⟩ := mem_excs.1 hy
  exact rep_ne_exc h h1 h2 h3 e

end Go.Proofs.Ytmhjdpmibfkhnaa
