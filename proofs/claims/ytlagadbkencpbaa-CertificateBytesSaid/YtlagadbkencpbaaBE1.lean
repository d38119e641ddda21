/-
  Str, Sum, MkNumber, MkSpoil, PSB, PRE, PRF, PRG, PBA: joined.
-/
import Derived.Laws.IdiomStrings
import Derived.Lib.ConvBytes
import Derived.Laws.AppendOwn
import Derived.BigRegion
import Derived.Test.YtlagadbkencpbaaBA1
import Derived.Test.YtlagadbkencpbaaBA2
import Derived.Test.YtlagadbkencpbaaBA3
import Derived.Test.YtlagadbkencpbaaBA4
import Derived.Test.YtlagadbkencpbaaBB1
import Derived.Test.YtlagadbkencpbaaBC1
import Derived.Test.YtlagadbkencpbaaBD1
set_option linter.unusedSimpArgs false
set_option linter.unusedVariables false
namespace Go.Proofs.Ytlagadbkencpbaa
open Go.RowKit

theorem take_snoc (s : ByteArray) (k : Nat) (h : k < s.size) : s.data.toList.take (k + 1) = s.data.toList.take k ++ [s[k]] := by
  rw [List.take_succ_eq_append_getElem (by simpa using h)]; rfl

theorem all_snocD (s : ByteArray) (k : Nat) (h : k < s.size) : (s.data.toList.take (k + 1)).all dig = ((s.data.toList.take k).all dig && dig s[k]) := by
  rw [take_snoc s k h, List.all_append]; simp

theorem all_take (s : ByteArray) (k : Nat) (h : (s.data.toList.take k).all dig = false) : s.data.toList.all dig = false := by
  have : s.data.toList.all dig = ((s.data.toList.take k).all dig && (s.data.toList.drop k).all dig) := by rw [← List.all_append, List.take_append_drop]
  rw [this, h]; rfl

end Go.Proofs.Ytlagadbkencpbaa

namespace Go.Proofs.Ytlagadbkencpbaa
open Go.RowKit

/-- A digit's value, and what it adds at place i. -/
def dv (c : UInt8) : Int := (c.toNat : Int) - 48
def wt (i : Nat) (c : UInt8) : Int := if i % 2 = 0 then (if 9 < 2 * dv c then 2 * dv c - 9 else 2 * dv c) else dv c
/-- The sum of the first n digits. -/
def sumTo (l : List UInt8) : Nat → Int
  | 0 => 0
  | n + 1 => sumTo l n + wt n (l.getD n 48)

theorem dig_all {s : ByteArray} (h : s.data.toList.all dig = true) (k : Nat) (hk : k < s.size) : 48 ≤ s[k].toNat ∧ s[k].toNat ≤ 57 := by
  have hm : s[k] ∈ s.data.toList := by
    have e : s[k] = s.data.toList[k]'(by simpa using hk) := rfl
    rw [e]; exact List.getElem_mem _
  have := List.all_eq_true.1 h _ hm
  simpa [dig] using this
theorem getD_byte (s : ByteArray) (k : Nat) (hk : k < s.size) (d : UInt8) : s.data.toList.getD k d = s[k] := by
  rw [List.getD_eq_getElem?_getD, List.getElem?_eq_getElem (by simpa using hk)]; rfl
theorem wt_bd (i : Nat) (c : UInt8) (h : 48 ≤ c.toNat ∧ c.toNat ≤ 57) : 0 ≤ wt i c ∧ wt i c ≤ 9 := by
  unfold wt dv; split <;> (try split) <;> omega
theorem sumTo_bd {s : ByteArray} (h : s.data.toList.all dig = true) (n : Nat) (hn : n ≤ s.size) : 0 ≤ sumTo s.data.toList n ∧ sumTo s.data.toList n ≤ 9 * n := by
  induction n with
  | zero => exact ⟨by simp [sumTo], by simp [sumTo]⟩
  | succ n ih =>
    have := ih (by omega)
    have hw := wt_bd n (s.data.toList.getD n 48) (by rw [getD_byte s n (by omega)]; exact dig_all h n (by omega))
    unfold sumTo
    omega

/-- The check digit of eleven digits. -/
def chkS (l : List UInt8) : Int := (10 - sumTo l 11 % 10) % 10
def digitR (s : ByteArray) : Int × Int := if dgs s 11 = true then (chkS s.data.toList, 0) else (0, 11)

theorem dgs_t {s : ByteArray} {n : Nat} (h : dgs s n = true) : s.size = n ∧ s.data.toList.all dig = true := by
  unfold dgs at h
  simpa using h

/-- The last digit is the check digit. -/
def oks (l : List UInt8) : Bool := decide ((sumTo l 11 + dv (l.getD 11 48)) % 10 = 0)
def validS (s : ByteArray) : Int := if dgs s 12 = true then (if oks s.data.toList = true then 0 else 9) else 11

theorem validR_ok {s : ByteArray} (h : dgs s 12 = true) (k : oks s.data.toList = true) : validS s = 0 := by unfold validS; rw [if_pos h, if_pos k]

theorem sumTo_append (l l' : List UInt8) (n : Nat) (h : n ≤ l.length) : sumTo (l ++ l') n = sumTo l n := by
  induction n with
  | zero => rfl
  | succ n ih =>
    unfold sumTo
    rw [ih (by omega), List.getD_eq_getElem?_getD, List.getD_eq_getElem?_getD, List.getElem?_append_left (by omega)]
theorem chk_bd (l : List UInt8) : 0 ≤ chkS l ∧ chkS l ≤ 9 := by unfold chkS; omega

end Go.Proofs.Ytlagadbkencpbaa

namespace Go.Proofs.Ytlagadbkencpbaa
open Go.RowKit

/-- The bytes of a string as numbers. -/
def nums (s : ByteArray) : List Int := s.data.toList.map fun b => (b.toNat : Int)
theorem nums_length (s : ByteArray) : (nums s).length = s.size := by unfold nums; rw [List.length_map]; rfl
theorem nums_getD (s : ByteArray) (j : Nat) (hj : j < s.size) : (nums s).getD j 0 = (s[j].toNat : Int) := by
  have h : j < s.data.toList.length := by simpa using hj
  rw [List.getD_eq_getElem?_getD]
  simp [nums, List.getElem?_map, List.getElem?_eq_getElem h]
  rfl
theorem strOfNums_nums (s : ByteArray) : strOfNums (nums s) = s := by
  have e : (strOfNums (nums s)).data.toList = s.data.toList := by
    rw [strOfNums_data]
    unfold nums
    rw [List.map_map]
    conv => rhs; rw [← List.map_id s.data.toList]
    refine List.map_congr_left fun c _ => ?_
    simp
  cases s
  unfold strOfNums at e ⊢
  simp only at e ⊢
  congr 1
  exact Array.toList_inj.1 (by simpa using e)

theorem Byts.ofString {w : World} {s : ByteArray} {c : Nat} {T : TypeId} (b : Nat) (hb : b = w.heap.size) :
    Byts (w.drew.alloc (.cells (bytesRow s c) T ((bytesRow s c).size, (bytesRow s c).size + 1))) b (nums s) := by
  subst hb
  have e : (w.drew.alloc (.cells (bytesRow s c) T ((bytesRow s c).size, (bytesRow s c).size + 1))).heap[w.heap.size]? = some (.cells (bytesRow s c) T ((bytesRow s c).size, (bytesRow s c).size + 1)) := by
    show (w.heap.push _)[w.heap.size]? = _
    rw [Array.getElem?_push, if_pos rfl]
  have hsz : s.size ≤ (bytesRow s c).size := by unfold bytesRow; rw [Array.size_append, Array.size_map]; exact Nat.le_add_right _ _
  refine ⟨fun j hj => ?_, fun j hj => ?_, by show w.heap.size < (w.heap.push _).size; simp⟩
  · rw [nums_length] at hj
    rw [nums_getD s j hj]
    unfold World.cell?
    rw [e]
    simp only [Option.isSome_none, Bool.false_eq_true, if_false]
    unfold bytesRow
    have hj' : j < s.data.size := hj
    rw [Array.getElem?_append_left (by simpa using hj')]
    simp [hj']
    exact ⟨s.data[j], by simp, rfl⟩
  · rw [nums_length] at hj
    unfold World.frozen?
    rw [e]
    simp
    omega

/-- string([]byte{v}). -/
theorem one_byte (W : World) (v : Int) : (convert 28 9 (.slice (some ⟨W.heap.size, 0, none⟩) 1 1)).run Try.prog (W.alloc (.cells #[.int .u8 v] 5)) = .ok (.string (strOfNums [v])) (W.alloc (.cells #[.int .u8 v] 5)) :=
  run_convert_bytes_arg _ 28 5 Try.underlying28 Try.underlying5 W.heap.size 0 1 1 [v] rfl (fun i hi => by
    obtain rfl : i = 0 := by omega
    rw [Nat.zero_add, cell_new]; rfl) 9 Try.underlying9

theorem bytes_of (w : World) (s : ByteArray) : (convert 9 28 (.string s)).run Try.prog w = .ok (.slice (some ⟨w.heap.size, 0, none⟩) s.size (grownCap w s.size 0 5))
      (w.drew.alloc (.cells (bytesRow s (grownCap w s.size 0 5)) 5 ((bytesRow s (grownCap w s.size 0 5)).size, (bytesRow s (grownCap w s.size 0 5)).size + 1))) :=
  run_bytes_of_string w 9 28 5 s Try.underlying9 Try.underlying28 Try.underlying5

theorem strOfNums_getD (xs : List Int) (j : Nat) (hj : j < xs.length) (d : UInt8) : (strOfNums xs).data.toList.getD j d = UInt8.ofNat (xs.getD j 0).toNat := by
  rw [strOfNums_data, List.getD_eq_getElem?_getD, List.getElem?_map, List.getElem?_eq_getElem hj, List.getD_eq_getElem?_getD, List.getElem?_eq_getElem hj]
  rfl
theorem strOfNums_append (xs ys : List Int) : strOfNums xs ++ strOfNums ys = strOfNums (xs ++ ys) := by
  unfold strOfNums
  rw [List.map_append]
  show (ByteArray.append _ _) = _
  cases xs <;> simp [ByteArray.append_eq, ByteArray.ext_iff]

/-- Eleven digits and their check digit. -/
theorem num_ok {xs : List Int} (hx : xs.length = 11) (hd : ∀ j, j < 11 → 48 ≤ xs.getD j 0 ∧ xs.getD j 0 ≤ 57) :
    dgs (strOfNums (xs ++ [48 + chkS (strOfNums xs).data.toList])) 12 = true ∧ validS (strOfNums (xs ++ [48 + chkS (strOfNums xs).data.toList])) = 0 := by
  have hc := chk_bd (strOfNums xs).data.toList
  generalize hg : chkS (strOfNums xs).data.toList = c at *
  have h12 : (xs ++ [48 + c]).length = 12 := by simp [hx]
  have g1 : dgs (strOfNums (xs ++ [48 + c])) 12 = true := by
    rw [← h12]
    refine dgs_strOfNums fun j hj => ?_
    by_cases e : j < 11
    · rw [List.getD_eq_getElem?_getD, List.getElem?_append_left (by omega), ← List.getD_eq_getElem?_getD]; exact hd j e
    · obtain rfl : j = 11 := by omega
      rw [List.getD_eq_getElem?_getD, List.getElem?_append_right (by omega), hx]
      show 48 ≤ 48 + c ∧ 48 + c ≤ 57
      omega
  refine ⟨g1, validR_ok g1 ?_⟩
  unfold oks
  have e1 : (strOfNums (xs ++ [48 + c])).data.toList = (strOfNums xs).data.toList ++ [UInt8.ofNat (48 + c).toNat] := by
    rw [strOfNums_data, List.map_append, strOfNums_data]; rfl
  have hl : (strOfNums xs).data.toList.length = 11 := by rw [strOfNums_data, List.length_map, hx]
  rw [e1, sumTo_append _ _ _ (by omega)]
  have e2 : ((strOfNums xs).data.toList ++ [UInt8.ofNat (48 + c).toNat]).getD 11 48 = UInt8.ofNat (48 + c).toNat := by
    rw [List.getD_eq_getElem?_getD, List.getElem?_append_right (by omega), hl]; rfl
  rw [e2]
  have e3 : dv (UInt8.ofNat (48 + c).toNat) = c := by unfold dv; rw [UInt8.toNat_ofNat']; omega
  rw [e3]
  refine decide_eq_true ?_
  rw [← hg]
  unfold chkS
  omega

/-- A valid number, whose digits 8 to 10 are those of i. -/
def IsNum (i : Int) (t : ByteArray) : Prop := dgs t 12 = true ∧ validS t = 0 ∧ t.data.toList.getD 8 0 = UInt8.ofNat (48 + i / 100 % 10).toNat ∧ t.data.toList.getD 9 0 = UInt8.ofNat (48 + i / 10 % 10).toNat ∧ t.data.toList.getD 10 0 = UInt8.ofNat (48 + i % 10).toNat

end Go.Proofs.Ytlagadbkencpbaa

namespace Go.Proofs.Ytlagadbkencpbaa
open Go.RowKit

theorem size_one (v : Int) : (strOfNums [v]).size = 1 := by rw [strOfNums_size]; rfl

set_option maxHeartbeats 1600000 in
theorem mspoil_any (m N : Nat) (s : ByteArray) (w : World) (h : IsMk w m N) (hN : N ≤ 10000000000) (hs : s.size ≤ 1000000) :
    Calls Try.prog 49 #[.pointer (some ⟨m, 0, none⟩), .string s] w (StrPost m (N + 3) (fun t => t.size ≤ s.size + 1) w) := by
  have hm := h.lt
  have hob := one_byte
  by_cases h0 : s.size = 0
  · have he : s = ⟨#[]⟩ := by
      cases s with | mk d => simp [ByteArray.size] at h0; simp [h0]
    subst he
    go_enter Try.func49, Try.ntmps49
    go_wp2_with fail
    refine (next_any m N _ _ h (by omega) (by omega) (by omega)).mono ?_
    rintro e w1 ⟨v, rfl, v1, v2, k1, k2⟩
    go_wp2_with fail
    go_ret
    exact ⟨_, rfl, by show (strOfNums [v]).size ≤ _; rw [size_one]; simp, (k1.alloc _).more (by omega), k2.alloc _⟩
  · have he : s.toList.isEmpty = false := by
      rw [ByteArray.toList_eq]
      have hq0 : s.data.toList.length = s.size := rfl
      have : s.data.toList.length ≠ 0 := by omega
      cases hq : s.data.toList with
      | nil => rw [hq] at this; exact absurd rfl this
      | cons a l => rfl
    have h1 : 1 ≤ s.size := by omega
    have hone : ∀ v, (strOfNums [v]).size = 1 := size_one
    clear h0
    go_enter Try.func49, Try.ntmps49
    go_wp2_with fail
    refine (next_any m N _ _ h (by omega) (by omega) (by omega)).mono ?_
    rintro e w1 ⟨v, rfl, v1, v2, k1, k2⟩
    obtain ⟨i, rfl⟩ := Int.eq_ofNat_of_zero_le v1
    have hi : i < s.size := by omega
    have b1 : (i : Int) ≤ (s.size : Int) := by omega
    have b2 : (i : Int) + 1 ≤ (s.size : Int) := by omega
    have b3 : 0 ≤ (i : Int) + 1 := by omega
    have b4 : (0 : Int) ≤ (i : Int) := by omega
    clear v1 v2
    go_wp2_with fail
    refine (next_any m (N + 1) _ _ k1 (by omega) (by omega) (by omega)).mono ?_
    rintro e w2 ⟨t, rfl, t1, t2, k3, k4⟩
    have V2 := k2.trans k4
    clear k1 k2 k4
    have hN2 : N + 1 + 1 ≤ 1000000000000 := by omega
    have W1 : IntKind.i64.wrap ((i : Int) + 1) = (i : Int) + 1 := IntWalk.i64_in _ (by omega)
    have W2 : ((i : Int) + 1).toNat = i + 1 := by omega
    have t3 : t = 0 ∨ t = 1 ∨ t = 2 ∨ t = 3 := by omega
    rcases t3 with rfl | rfl | rfl | rfl
    · go_wp2_with fail
      go_quiet (fail)
      go_wp2_with fail
      go_ret
      exact ⟨_, rfl, by show (s.extract 0 i ++ s.extract (i + 1) s.size).size ≤ _; simp [ByteArray.size_append, ByteArray.size_extract]; omega, (k3.drewN).more (by omega), V2.drewN⟩
    · go_wp2_with fail
      go_region_with (first | (go_at_call 40; refine (next_any m (N + 1 + 1) _ _ k3.drew hN2 (by decide) (by decide)).mono ?_; rintro e w3 ⟨u, rfl, u1, u2, k5, k6⟩))
      all_goals
        go_wp2_with fail
        go_ret
        exact ⟨_, rfl, by show (s.extract 0 i ++ strOfNums [_] ++ s.extract i s.size).size ≤ _; simp [ByteArray.size_append, ByteArray.size_extract, size_one]; omega, k5.alloc _, (V2.drewN (n := 1)).trans (k6.alloc _)⟩
    · go_wp2_with fail
      go_region_with (first | (go_at_call 40; refine (next_any m (N + 1 + 1) _ _ k3.drew hN2 (by decide) (by decide)).mono ?_; rintro e w3 ⟨u, rfl, u1, u2, k5, k6⟩))
      all_goals
        go_wp2_with fail
        go_ret
        exact ⟨_, rfl, by show (s.extract 0 i ++ strOfNums [_] ++ s.extract (i + 1) s.size).size ≤ _; simp [ByteArray.size_append, ByteArray.size_extract, size_one]; omega, k5.alloc _, (V2.drewN (n := 1)).trans (k6.alloc _)⟩
    · go_wp2_with fail
      go_region_with (first | (go_at_call 40; refine (next_any m (N + 1 + 1) _ _ k3.drew hN2 (by decide) (by decide)).mono ?_; rintro e w3 ⟨u, rfl, u1, u2, k5, k6⟩))
      all_goals
        go_wp2_with fail
        go_ret
        exact ⟨_, rfl, by show (s.extract 0 i ++ strOfNums [_] ++ s.extract (i + 1) s.size).size ≤ _; simp [ByteArray.size_append, ByteArray.size_extract, size_one]; omega, k5.alloc _, (V2.drewN (n := 1)).trans (k6.alloc _)⟩

end Go.Proofs.Ytlagadbkencpbaa

namespace Go.Proofs.Ytlagadbkencpbaa
open Go.RowKit

theorem conv_row (w : World) {A : Option Addr} {c : Nat} {zs : List Int} (h : ∀ j, j < zs.length → ∃ ad : Addr, A = some ad ∧ w.cell? (ad.add j) = some (.int .u8 (zs.getD j 0))) (n : Nat) (hn : n = zs.length) :
    (convert 28 9 (.slice A n c)).run Try.prog w = .ok (.string (strOfNums zs)) w := by
  subst hn
  cases A with
  | none =>
    have : zs = [] := by
      cases zs with
      | nil => rfl
      | cons z l => obtain ⟨ad, e, _⟩ := h 0 (by simp); cases e
    subst this
    exact run_convert_bytes_nil w 28 5 Try.underlying28 Try.underlying5 0 c 9 Try.underlying9
  | some ad =>
    have hl : (loadCells ad zs.length).run Try.prog w = .ok (zs.map (Value.int .u8)).toArray w := by
      have := run_loadCells_list (P := Try.prog) w ad (zs.map (Value.int .u8)) (fun j v hj => by
        have hjl : j < zs.length := by
          have := (List.getElem?_eq_some_iff.1 hj).1
          simpa using this
        obtain ⟨ad', e, hc⟩ := h j hjl
        injection e with e
        subst e
        rw [hc]
        simp [List.getElem?_eq_getElem hjl] at hj
        subst hj
        simp [List.getD, List.getElem?_eq_getElem hjl])
      simpa using this
    rw [run_convert_bytes_string w 28 9 5 _ zs.length c Try.underlying28 Try.underlying5 Try.underlying9, run_bytesToString w _ zs.length c zs hl, foldl_push_bytes]
    simp [strOfNums, ByteArray.empty, ByteArray.emptyWithCapacity]
    rfl
theorem conv_str_ (w : World) (t : ByteArray) (ht : t.size ≤ 1000001) : ∃ (c : Nat) (w' : World), (convert 9 28 (.string t)).run Try.prog w = .ok (.slice (some ⟨w.heap.size, 0, none⟩) t.size c) w' ∧ Below w.heap.size w w' ∧
    Row .u8 w' w'.heap.size (some ⟨w.heap.size, 0, none⟩) (nums t) ∧ t.size ≤ c ∧ c ≤ maxLen := by
  refine ⟨_, _, Lib.run_convert_string_bytes w 9 28 5 t Try.underlying9 Try.underlying28 Try.underlying5, ⟨rfl, rfl, rfl, by rw [Lib.bytesWorld_size]; omega, fun k hk => Lib.bytesWorld_at_old w _ t k hk⟩, fun j hj => ⟨_, rfl, by rw [Lib.bytesWorld_size]; exact Nat.lt_succ_self _, ?_⟩, grownCap_ge _ _ _ _, grownCap_le_maxLen _ _ _ _ (by unfold maxLen; omega)⟩
  rw [nums_length] at hj
  rw [add_own, Lib.bytesWorld_cell w _ t j hj]
  unfold nums
  have hj' : j < t.data.toList.length := hj
  rw [List.getD_eq_getElem?_getD, List.getD_eq_getElem?_getD, List.getElem?_map, List.getElem?_eq_getElem hj']
  rfl
/-- What SpoilBytes leaves. -/
def SpbPost (m M K : Nat) (w : World) (e : Ending) (w' : World) : Prop :=
  ∃ A c xs, e = .returned (.slice A xs.length c) ∧ Row .u8 w' w'.heap.size A xs ∧ BB8 xs ∧ (xs.length ≤ c ∧ c ≤ maxLen) ∧ xs.length ≤ K + 1 ∧ IsMk w' m M ∧ Moves m w w'
theorem nums_bd_ (s : ByteArray) : BB8 (nums s) := fun z hz => by
  unfold nums at hz
  obtain ⟨b, _, rfl⟩ := List.mem_map.1 hz
  have := b.toNat_lt
  omega
theorem mspoilb_any (m N n : Nat) (xs : List Int) (A : Option Addr) (c : Nat) (w : World) (h : IsMk w m N) (hN : N ≤ 10000000000) (R : Row .u8 w w.heap.size A xs) (hn : n = xs.length) (hl : n ≤ 1000000) :
    Calls Try.prog 23 #[.pointer (some ⟨m, 0, none⟩), .slice A n c] w (SpbPost m (N + 3) n w) := by
  have hcv := conv_row w (A := A) (c := c) (zs := xs) (fun j hj => by obtain ⟨ad, e, _, hc⟩ := R j hj; exact ⟨ad, e, hc⟩) n hn
  obtain ⟨s, hs⟩ : ∃ s, s = strOfNums xs := ⟨_, rfl⟩
  rw [← hs] at hcv
  have HS := Lib.hid (show s.size = n by rw [hs, strOfNums_size, hn])
  have hm := h.lt
  clear R hs hn
  go_enter Try.func23, Try.ntmps23
  go_wp2_with fail
  refine (mspoil_any m N s _ h hN (by rw [HS.out]; exact hl)).mono ?_
  rintro e w1 ⟨t, rfl, ht, k1, k2⟩
  have ht2 : t.size ≤ 1000001 := by have := HS.out; omega
  have ht3 : t.size ≤ n + 1 := by have := HS.out; omega
  obtain ⟨c2, w2, hcw, B2, R2, hc1, hc2⟩ := conv_str_ w1 t ht2
  have HR2 := Lib.hid R2
  have HB2 := Lib.hid B2
  have HT := Lib.hid ht3
  have HC := Lib.hid (show t.size ≤ c2 ∧ c2 ≤ maxLen from ⟨hc1, hc2⟩)
  have K2 := Lib.hid (k1.stays' B2)
  have M2 := Lib.hid (k2.trans (Moves.of_below B2))
  clear R2 B2 ht k1 k2 hc1 hc2 ht2 ht3
  go_wp2_with fail
  go_ret
  refine ⟨_, c2, nums t, by rw [nums_length]; rfl, HR2.out, nums_bd_ t, ?_, ?_, K2.out, M2.out⟩
  · rw [nums_length]; exact HC.out
  · rw [nums_length]; exact HT.out
end Go.Proofs.Ytlagadbkencpbaa

namespace Go.Proofs.Ytlagadbkencpbaa
open Go.RowKit Go.Lib

theorem upto_one (st : Int) : uptoB 12 [st] = (decide (0 ≤ st) && decide (st ≤ 12)) := by unfold uptoB; simp
theorem uptoB_all {g : Int} {zs : List Int} {n : Nat} (h : n = zs.length) : uptoB g (zs.take n) = uptoB g zs := by rw [h, List.take_length]
set_option maxRecDepth 100000 in
set_option maxHeartbeats 1600000 in
theorem rvalid15_any (st : Int) (v ch : List Int) (A B : Option Addr) (n c m d : Nat) (hn : n = v.length) (hm : m = ch.length) (hvm : v.length ≤ maxLen) (hcm : ch.length ≤ maxLen) (w : World) (hv : Row .i64 w w.heap.size A v) (hc : Row .i64 w w.heap.size B ch) :
    Calls Try.prog 48 #[qv st A n c B m d] w fun e w' => e = .returned (.int .i64 (encE st v ch)) ∧ Below w.heap.size w w' := by
  have B1 := (Below.refl w.heap.size w).alloc (Nat.le_refl _) (qcells st A n c B m d)
  have HQ := Lib.hid (QBox.new (w := w) (st := st) (A := A) (n := n) (c := c) (B := B) (m := m) (d := d) w.heap.size rfl)
  have HB := Lib.hid B1
  have HV := Lib.hid (hv.below B1)
  have HC := Lib.hid (hc.below B1)
  have hnl : n ≤ 9223372036854775807 := by rw [hn]; exact hvm
  have hml : m ≤ 9223372036854775807 := by rw [hm]; exact hcm
  have HN := Lib.hid hn
  have HM := Lib.hid hm
  have HE := Lib.hid (show encE st v ch = if 96 < n ∨ 96 < m then 3 else if encB st v ch = true then 0 else 2 by rw [hn, hm]; rfl)
  obtain ⟨sB, hsB⟩ : ∃ s, s = (decide (0 ≤ st) && decide (st ≤ 12)) := ⟨_, rfl⟩
  have HSB := Lib.hid hsB
  have HEB := Lib.hid (show encB st v ch = (sB && (uptoB 4095 v && uptoB 95 ch)) by unfold encB; rw [upto_one, hsB])
  clear hv hc hn hm hvm hcm B1 hsB
  obtain ⟨b, hb⟩ : ∃ b, b = w.heap.size := ⟨_, rfl⟩
  go_enter Try.func48, Try.ntmps48
  go_upto_region 1 with fail
  rw [← hb] at HQ ⊢
  generalize w.alloc (qcells st A n c B m d) = w1 at *
  clear hb
  obtain ⟨q0, q1, q2, -, ql⟩ := HQ.out
  by_cases h1 : 96 < n
  · have HF := Lib.hid (show encE st v ch = 3 by rw [HE.out, if_pos (Or.inl h1)])
    have h1i : (96 : Int) < (n : Int) := by omega
    go_wp2_with fail
    go_ret
    exact ⟨ret_int HF.out.symm, HB.out⟩
  · by_cases h2 : 96 < m
    · have HF := Lib.hid (show encE st v ch = 3 by rw [HE.out, if_pos (Or.inr h2)])
      have h1i : ¬ (96 : Int) < (n : Int) := by omega
      have h2i : (96 : Int) < (m : Int) := by omega
      go_wp2_with fail
      go_ret
      exact ⟨ret_int HF.out.symm, HB.out⟩
    · have HF := Lib.hid (show encE st v ch = if encB st v ch = true then 0 else 2 by rw [HE.out, if_neg (by omega)])
      have h1i : ¬ (96 : Int) < (n : Int) := by omega
      have h2i : ¬ (96 : Int) < (m : Int) := by omega
      go_upto_region 3 with fail
      go_cut [3] from 17 to 26 (fun ov wx => ov = .bool sB ∧ Hid (wx = w1))
      case first =>
        by_cases s0 : 0 ≤ st
        · by_cases s1 : st ≤ 12
          · have hs := HSB.out
            rw [decide_eq_true s0, decide_eq_true s1] at hs
            go_wp2_with fail
            go_meet
            case rel => exact ⟨by rw [hs]; rfl, Lib.hid rfl⟩
          · have hs := HSB.out
            rw [decide_eq_true s0, decide_eq_false s1] at hs
            go_wp2_with fail
            go_meet
            case rel => exact ⟨by rw [hs]; rfl, Lib.hid rfl⟩
        · have hs := HSB.out
          rw [decide_eq_false s0] at hs
          go_wp2_with fail
          go_meet
          case rel => exact ⟨by rw [hs]; rfl, Lib.hid rfl⟩
      case rest =>
      obtain ⟨rfl, HW⟩ := hcut
      have hwc := HW.out
      subst hwc
      clear HW HE HSB h1 h2
      go_wp2_with fail
      clear q0 q1 q2 ql
      go_loopw [3, 4] (fun ov iv wr => ∃ (k : Nat) (f : Bool), k ≤ n ∧ ov = .bool f ∧ iv = .int .i64 (k : Int) ∧ Hid (f = (sB && uptoB 4095 (v.take k))) ∧ Hid (wc = wr)) (fun _ iv _ => n - (intOf iv).toNat)
      case atStart => exact ⟨0, sB, by omega, rfl, rfl, Lib.hid (by simp [uptoB]), Lib.hid rfl⟩
      case round =>
        obtain ⟨k, f, hk, rfl, rfl, HF1, HW⟩ := hrel
        obtain rfl := HW.out
        obtain ⟨q0, q1, q2, -, ql⟩ := HQ.out
        by_cases hlt : k < n
        · have hki : (k : Int) < (n : Int) := by omega
          obtain ⟨pad, rfl, plt, cp⟩ := HV.out k (by rw [← HN.out]; exact hlt)
          have HT := Lib.hid (uptoB_take (g := 4095) (show k < v.length by rw [← HN.out]; exact hlt))
          have HT2 := Lib.hid (show (sB && uptoB 4095 (v.take (k + 1))) = (f && (decide (0 ≤ v.getD k 0) && decide (v.getD k 0 ≤ 4095))) by rw [HT.out, HF1.out, Bool.and_assoc])
          clear HT HF1
          generalize v.getD k 0 = z at *
          cases f
          · have HZ := Lib.hid (show false = (sB && uptoB 4095 (v.take (k + 1))) by rw [HT2.out]; rfl)
            clear HT2
            go_wp2_with fail
            go_roundw
            case rel => exact ⟨k + 1, false, by omega, rfl, by go_num, HZ, by first | exact Lib.hid rfl | exact Lib.hid trivial⟩
            case measure => simp [intOf]; omega
          · by_cases z0 : 0 ≤ z
            · by_cases z1 : z < 4096
              · have HZ := Lib.hid (show true = (sB && uptoB 4095 (v.take (k + 1))) by rw [HT2.out, decide_eq_true z0, decide_eq_true (by omega)]; rfl)
                clear HT2
                go_wp2_with fail
                go_roundw
                case rel => exact ⟨k + 1, true, by omega, rfl, by go_num, HZ, by first | exact Lib.hid rfl | exact Lib.hid trivial⟩
                case measure => simp [intOf]; omega
              · have HZ := Lib.hid (show false = (sB && uptoB 4095 (v.take (k + 1))) by rw [HT2.out, decide_eq_true z0, decide_eq_false (by omega)]; rfl)
                clear HT2
                go_wp2_with fail
                go_roundw
                case rel => exact ⟨k + 1, false, by omega, rfl, by go_num, HZ, by first | exact Lib.hid rfl | exact Lib.hid trivial⟩
                case measure => simp [intOf]; omega
            · have HZ := Lib.hid (show false = (sB && uptoB 4095 (v.take (k + 1))) by rw [HT2.out, decide_eq_false z0]; rfl)
              clear HT2
              go_wp2_with fail
              go_roundw
              case rel => exact ⟨k + 1, false, by omega, rfl, by go_num, HZ, by first | exact Lib.hid rfl | exact Lib.hid trivial⟩
              case measure => simp [intOf]; omega
        · have HK := Lib.hid (show f = (sB && uptoB 4095 v) by rw [HF1.out, uptoB_all (by rw [← HN.out]; omega)])
          have hkn : ¬ (k : Int) < (n : Int) := by omega
          clear HF1 hlt hk
          go_wp2_with fail
          clear q0 q1 q2 ql
          go_loopw [3, 5] (fun ov iv wr => ∃ (j : Nat) (g : Bool), j ≤ m ∧ ov = .bool g ∧ iv = .int .i64 (j : Int) ∧ Hid (g = (f && uptoB 95 (ch.take j))) ∧ Hid (wc = wr)) (fun _ iv _ => m - (intOf iv).toNat)
          case atStart => exact ⟨0, f, by omega, rfl, rfl, Lib.hid (by simp [uptoB]), Lib.hid rfl⟩
          case round =>
            obtain ⟨j, g, hj, rfl, rfl, HG1, HW2⟩ := hrel
            obtain rfl := HW2.out
            obtain ⟨q0, q1, q2, -, ql⟩ := HQ.out
            by_cases hlt : j < m
            · have hji : (j : Int) < (m : Int) := by omega
              obtain ⟨pad, rfl, plt, cp⟩ := HC.out j (by rw [← HM.out]; exact hlt)
              have HT := Lib.hid (uptoB_take (g := 95) (show j < ch.length by rw [← HM.out]; exact hlt))
              have HT2 := Lib.hid (show (f && uptoB 95 (ch.take (j + 1))) = (g && (decide (0 ≤ ch.getD j 0) && decide (ch.getD j 0 ≤ 95))) by rw [HT.out, HG1.out, Bool.and_assoc])
              clear HT HG1
              generalize ch.getD j 0 = z at *
              cases g
              · have HZ := Lib.hid (show false = (f && uptoB 95 (ch.take (j + 1))) by rw [HT2.out]; rfl)
                clear HT2
                go_wp2_with fail
                go_roundw
                case rel => exact ⟨j + 1, false, by omega, rfl, by go_num, HZ, by first | exact Lib.hid rfl | exact Lib.hid trivial⟩
                case measure => simp [intOf]; omega
              · by_cases z0 : 0 ≤ z
                · by_cases z1 : z < 96
                  · have HZ := Lib.hid (show true = (f && uptoB 95 (ch.take (j + 1))) by rw [HT2.out, decide_eq_true z0, decide_eq_true (by omega)]; rfl)
                    clear HT2
                    go_wp2_with fail
                    go_roundw
                    case rel => exact ⟨j + 1, true, by omega, rfl, by go_num, HZ, by first | exact Lib.hid rfl | exact Lib.hid trivial⟩
                    case measure => simp [intOf]; omega
                  · have HZ := Lib.hid (show false = (f && uptoB 95 (ch.take (j + 1))) by rw [HT2.out, decide_eq_true z0, decide_eq_false (by omega)]; rfl)
                    clear HT2
                    go_wp2_with fail
                    go_roundw
                    case rel => exact ⟨j + 1, false, by omega, rfl, by go_num, HZ, by first | exact Lib.hid rfl | exact Lib.hid trivial⟩
                    case measure => simp [intOf]; omega
                · have HZ := Lib.hid (show false = (f && uptoB 95 (ch.take (j + 1))) by rw [HT2.out, decide_eq_false z0]; rfl)
                  clear HT2
                  go_wp2_with fail
                  go_roundw
                  case rel => exact ⟨j + 1, false, by omega, rfl, by go_num, HZ, by first | exact Lib.hid rfl | exact Lib.hid trivial⟩
                  case measure => simp [intOf]; omega
            · have HL := Lib.hid (show encB st v ch = g by rw [HEB.out, HG1.out, uptoB_all (show j = ch.length by rw [← HM.out]; omega), HK.out, Bool.and_assoc])
              have hjm : ¬ (j : Int) < (m : Int) := by omega
              clear HG1 hlt hj
              cases g
              · have HR := Lib.hid (show encE st v ch = 2 by rw [HF.out, HL.out]; rfl)
                go_wp2_with fail
                go_ret
                exact ⟨ret_int HR.out.symm, HB.out⟩
              · have HR := Lib.hid (show encE st v ch = 0 by rw [HF.out, HL.out]; rfl)
                go_wp2_with fail
                go_ret
                exact ⟨ret_int HR.out.symm, HB.out⟩
end Go.Proofs.Ytlagadbkencpbaa

namespace Go.Proofs.Ytlagadbkencpbaa
open Go.RowKit Go.Lib

/-- Bytes appended in a region that draws. -/
theorem AnyT.apd {ops : Array Oper} {Q : Exit → Act → World → Prop} {S : World → Prop} {tl : Nat → Bool} {i : Nat} {o : Oper} {fuel : Nat} {listed : Array Bool} {a : Act} {W : World} {d : Option Tmp} (ho : ops[i]? = some o) (hgd : o.guard = none) (hd : o.dst = d) (s x : Operand)
    (hop : o.op = .call { callee := .builtin .append, args := #[s, x], argTypes := #[28, 28] }) (base : Nat) (v : Value) (zs : List Int) (hs : a.eval s = v) (O : Own .u8 5 W base v zs)
    (ys : List Int) (w0 : World) (hW : W = w0.alloc (.cells (ys.map (Value.int .u8)).toArray 5)) (m c : Nat) (hm : ys.length = m) (h0 : 0 < m) (hx : a.eval x = .slice (some ⟨w0.heap.size, 0, none⟩) m c)
    (hl : zs.length + m ≤ 1000000000) (hb : base ≤ W.heap.size)
    (h : ∀ v' w', Own .u8 5 w' base v' (zs ++ ys) → Apd W v w' v' → (tl i = false → S w') ∧ AnyT Try.prog ops Q S tl fuel (listed.setIfInBounds i true) (a.put d v') w') :
    wpOp Try.prog ops Q i (fun a' w' => (tl i = false → S w') ∧ AnyT Try.prog ops Q S tl fuel (listed.setIfInBounds i true) a' w') a W :=
  AnyT.step ho (fun KK hK => by
    subst hd
    exact step_apd W hgd s x hop base v zs hs O ys w0 hW m c hm h0 hx hl hb (fun v' w' O1 A1 => hK.out _ _ (h v' w' O1 A1).1 (h v' w' O1 A1).2))
theorem qr_facts {z : Int} (z0 : 0 ≤ z) (z1 : z ≤ 4095) : IntKind.i64.wrap (z.tdiv 256) = z / 256 ∧ IntKind.u8.wrap (z / 256) = z / 256 ∧ z.tmod 256 = z % 256 ∧ IntKind.u8.wrap (z % 256) = z % 256 := by
  have h1 : z.tdiv 256 = z / 256 := Int.tdiv_eq_ediv_of_nonneg z0
  have h2 : z.tmod 256 = z % 256 := Int.tmod_eq_emod_of_nonneg z0
  refine ⟨?_, ?_, h2, ?_⟩
  · rw [h1, IntKind.wrap_i64]; omega
  · simp [IntKind.wrap, IntKind.bits, IntKind.signed] <;> omega
  · simp [IntKind.wrap, IntKind.bits, IntKind.signed] <;> omega
theorem BSt.under {w2 wr w' : World} {u : Value} {L : List Int} (h : BSt w2 wr u L) (k : Below wr.heap.size wr w') : BSt w2 w' u L := ⟨h.own.below k, h.bel.trans (k.mono h.bel.size)⟩

set_option maxRecDepth 100000 in
set_option maxHeartbeats 3200000 in
theorem renc_any (st : Int) (v ch : List Int) (A B : Option Addr) (n c m d : Nat) (hn : n = v.length) (hm : m = ch.length) (hvm : v.length ≤ maxLen) (hcm : ch.length ≤ maxLen) (w : World) (hv : Row .i64 w w.heap.size A v) (hc : Row .i64 w w.heap.size B ch) :
    Calls Try.prog 21 #[qv st A n c B m d] w (EncPost st v ch w) := by
  have B1 := (Below.refl w.heap.size w).alloc (Nat.le_refl _) (qcells st A n c B m d)
  have HQ := Lib.hid (QBox.new (w := w) (st := st) (A := A) (n := n) (c := c) (B := B) (m := m) (d := d) w.heap.size rfl)
  have HB := Lib.hid B1
  have HV := Lib.hid (hv.below B1)
  have HC := Lib.hid (hc.below B1)
  have HN := Lib.hid hn
  have HM := Lib.hid hm
  have HEN := Lib.hid (fun (W : World) (q : Row .i64 W W.heap.size A v) (r : Row .i64 W W.heap.size B ch) => rvalid15_any st v ch A B n c m d hn hm hvm hcm W q r)
  have HEE := Lib.hid (fun (h : encE st v ch = 0) => encE_zero h)
  rw [← hn, ← hm] at HEE
  clear hv hc hn hm hvm hcm B1
  obtain ⟨b, hb⟩ : ∃ b, b = w.heap.size := ⟨_, rfl⟩
  go_enter Try.func21, Try.ntmps21
  go_upto_region 1 with fail
  rw [← hb] at HQ ⊢
  generalize w.alloc (qcells st A n c B m d) = w1 at *
  clear hb
  obtain ⟨q0, q1, q2, -, ql⟩ := HQ.out
  go_wp2_with fail
  refine (HEN.out w1 HV.out HC.out).mono ?_
  rintro e w2 ⟨rfl, B2⟩
  have HQ2 := Lib.hid (HQ.out.below B2 ql)
  have HB2 := Lib.hid (HB.out.trans (B2.mono HB.out.size))
  have HV2 := Lib.hid (HV.out.below B2)
  have HC2 := Lib.hid (HC.out.below B2)
  clear q0 q1 q2 ql HQ HB HV HC B2 HEN
  by_cases he : encE st v ch = 0
  · obtain ⟨⟨n96, m96⟩, ⟨s0, s1⟩, hvb, hcb⟩ := HEE.out he
    have HVB := Lib.hid hvb
    have HCB := Lib.hid hcb
    have HF := Lib.hid he
    rw [he]
    clear hvb hcb he HEE
    obtain ⟨q0, q1, q2, -, ql⟩ := HQ2.out
    have S0 := Lib.hid (BSt.start (w2 := w2) [st, (n : Int)] 2 2 rfl rfl (show 2 ≤ 1000 by decide))
    replace S0 : Hid (BSt w2 (w2.alloc (.cells #[.int .u8 st, .int .u8 (n : Int)] 5)) (.slice (some ⟨w2.heap.size, 0, none⟩) 2 2) [st, (n : Int)]) := S0
    go_wp2_with fail
    clear q0 q1 q2 ql
    go_loopw [5, 6] (fun u iv wr => ∃ k : Nat, k ≤ n ∧ iv = .int .i64 (k : Int) ∧ Hid (BSt w2 wr u ([st, (n : Int)] ++ (v.take k).flatMap pair2))) (fun _ iv _ => n - (intOf iv).toNat)
    case atStart => exact ⟨0, by omega, rfl, S0⟩
    case round =>
      clear S0
      obtain ⟨k, hk, rfl, S⟩ := hrel
      have Q3 := Lib.hid (HQ2.out.below S.out.bel HQ2.out.lt)
      obtain ⟨q0, q1, q2, -, ql⟩ := Q3.out
      by_cases hlt : k < n
      · have hki : (k : Int) < (n : Int) := by omega
        have hkl : k < v.length := by rw [← HN.out]; exact hlt
        obtain ⟨pad, rfl, plt, cp0⟩ := HV2.out k hkl
        have cp := (S.out.bel.cell (p := pad.add k) (by rw [add_block]; exact plt)).trans cp0
        have HCP := Lib.hid cp0
        clear cp0
        obtain ⟨z0, z1⟩ := HVB.out k hlt
        have HT := Lib.hid (take_fl hkl)
        have HL := Lib.hid (show ([st, (n : Int)] ++ (v.take k).flatMap pair2).length ≤ 200 by rw [List.length_append, fl_len, List.length_take]; show 2 + _ ≤ _; omega)
        generalize v.getD k 0 = z at *
        obtain ⟨L, hL⟩ : ∃ L, L = [st, (n : Int)] ++ (v.take k).flatMap pair2 := ⟨_, rfl⟩
        have HLE := Lib.hid hL
        rw [← hL] at S HL
        clear hL
        go_upto_region 8 with fail
        obtain ⟨x0, e0⟩ : ∃ x, x = wr.drew := ⟨_, rfl⟩
        have HX0 := Lib.hid (show Below wr.heap.size wr x0 by rw [e0]; exact (Below.refl _ _).drew)
        have F0 : x0.cell? ⟨b, 1, none⟩ = some (.slice (some pad) n c) ∧ x0.cell? (pad.add k) = some (.int .i64 z) := by rw [e0]; exact ⟨q1, cp⟩
        have HE0 := Lib.hid e0
        have HP := Lib.hid plt
        have HQR := Lib.hid (show IntKind.i64.wrap (z.tdiv 256) = z / 256 ∧ IntKind.u8.wrap (z / 256) = z / 256 ∧ z.tmod 256 = z % 256 ∧ IntKind.u8.wrap (z % 256) = z % 256 from qr_facts z0 z1)
        clear e0 q0 q1 q2 ql cp plt Q3
        refine AnyT.begin_at (tlGe 19) (fun X => X.cell? ⟨b, 1, none⟩ = some (.slice (some pad) n c) ∧ X.cell? (pad.add k) = some (.int .i64 z)) (by kernel_rfl) HE0.out F0 ?_
        clear HE0
        intro F0
        refine AnyT.takeD (i := 0) (d := some 31) (v := u5) rfl rfl (by kernel_rfl) (by kernel_rfl) (by kernel_rfl) (by kernel_rfl) (fun _ _ _ h => h) (Or.inl ⟨by rfl, fun wz _ => by go_simp⟩) F0 ?_
        simp only [Act.put, List.setIfInBounds_toArray, List.set_cons_zero, List.set_cons_succ]
        refine AnyT.takeD (i := 1) (d := some 32) (v := .pointer (some ⟨b, 0, none⟩)) rfl rfl (by kernel_rfl) (by kernel_rfl) (by kernel_rfl) (by kernel_rfl) (fun _ _ _ h => h) (Or.inl ⟨by rfl, fun wz _ => by go_simp⟩) F0 ?_
        simp only [Act.put, List.setIfInBounds_toArray, List.set_cons_zero, List.set_cons_succ]
        refine AnyT.takeD (i := 2) (d := some 33) (v := .pointer (some ⟨b, 1, none⟩)) rfl rfl (by kernel_rfl) (by kernel_rfl) (by kernel_rfl) (by kernel_rfl) (fun _ _ _ h => h) (Or.inl ⟨by rfl, fun wz _ => by go_simp⟩) F0 ?_
        simp only [Act.put, List.setIfInBounds_toArray, List.set_cons_zero, List.set_cons_succ]
        refine AnyT.takeD (i := 3) (d := some 34) (v := .slice (some pad) n c) rfl rfl (by kernel_rfl) (by kernel_rfl) (by kernel_rfl) (by kernel_rfl) (fun _ _ _ h => h) (Or.inl ⟨by rfl, fun wz hz => by obtain ⟨z3, z4⟩ := hz; go_simp⟩) F0 ?_
        simp only [Act.put, List.setIfInBounds_toArray, List.set_cons_zero, List.set_cons_succ]
        refine AnyT.takeD (i := 4) (d := some 35) (v := .int .i64 (k : Int)) rfl rfl (by kernel_rfl) (by kernel_rfl) (by kernel_rfl) (by kernel_rfl) (fun _ _ _ h => h) (Or.inl ⟨by rfl, fun wz _ => by go_simp⟩) F0 ?_
        simp only [Act.put, List.setIfInBounds_toArray, List.set_cons_zero, List.set_cons_succ]
        refine AnyT.takeD (i := 5) (d := some 36) (v := .pointer (some (pad.add k))) rfl rfl (by kernel_rfl) (by kernel_rfl) (by kernel_rfl) (by kernel_rfl) (fun _ _ _ h => h) (Or.inl ⟨by rfl, fun wz _ => by go_simp⟩) F0 ?_
        simp only [Act.put, List.setIfInBounds_toArray, List.set_cons_zero, List.set_cons_succ]
        refine AnyT.takeD (i := 6) (d := some 37) (v := .int .i64 z) rfl rfl (by kernel_rfl) (by kernel_rfl) (by kernel_rfl) (by kernel_rfl) (fun _ _ _ h => h) (Or.inl ⟨by rfl, fun wz hz => by obtain ⟨z3, z4⟩ := hz; go_simp⟩) F0 ?_
        simp only [Act.put, List.setIfInBounds_toArray, List.set_cons_zero, List.set_cons_succ]
        refine AnyT.takeD (i := 7) (d := some 38) (v := .int .i64 (z / 256)) rfl rfl (by kernel_rfl) (by kernel_rfl) (by kernel_rfl) (by kernel_rfl) (fun _ _ _ h => h) (Or.inl ⟨by rfl, fun wz _ => by go_simp; exact HQR.out.1⟩) F0 ?_
        simp only [Act.put, List.setIfInBounds_toArray, List.set_cons_zero, List.set_cons_succ]
        refine AnyT.takeD (i := 8) (d := some 39) (v := .int .u8 (z / 256)) rfl rfl (by kernel_rfl) (by kernel_rfl) (by kernel_rfl) (by kernel_rfl) (fun _ _ _ h => h) (Or.inl ⟨by rfl, fun wz _ => by go_simp; exact HQR.out.2.1⟩) F0 ?_
        simp only [Act.put, List.setIfInBounds_toArray, List.set_cons_zero, List.set_cons_succ]
        refine AnyT.takeD (i := 9) (d := some 40) (v := .pointer (some ⟨b, 0, none⟩)) rfl rfl (by kernel_rfl) (by kernel_rfl) (by kernel_rfl) (by kernel_rfl) (fun _ _ _ h => h) (Or.inl ⟨by rfl, fun wz _ => by go_simp⟩) F0 ?_
        simp only [Act.put, List.setIfInBounds_toArray, List.set_cons_zero, List.set_cons_succ]
        refine AnyT.takeD (i := 10) (d := some 41) (v := .pointer (some ⟨b, 1, none⟩)) rfl rfl (by kernel_rfl) (by kernel_rfl) (by kernel_rfl) (by kernel_rfl) (fun _ _ _ h => h) (Or.inl ⟨by rfl, fun wz _ => by go_simp⟩) F0 ?_
        simp only [Act.put, List.setIfInBounds_toArray, List.set_cons_zero, List.set_cons_succ]
        refine AnyT.takeD (i := 11) (d := some 42) (v := .slice (some pad) n c) rfl rfl (by kernel_rfl) (by kernel_rfl) (by kernel_rfl) (by kernel_rfl) (fun _ _ _ h => h) (Or.inl ⟨by rfl, fun wz hz => by obtain ⟨z3, z4⟩ := hz; go_simp⟩) F0 ?_
        simp only [Act.put, List.setIfInBounds_toArray, List.set_cons_zero, List.set_cons_succ]
        refine AnyT.takeD (i := 12) (d := some 43) (v := .int .i64 (k : Int)) rfl rfl (by kernel_rfl) (by kernel_rfl) (by kernel_rfl) (by kernel_rfl) (fun _ _ _ h => h) (Or.inl ⟨by rfl, fun wz _ => by go_simp⟩) F0 ?_
        simp only [Act.put, List.setIfInBounds_toArray, List.set_cons_zero, List.set_cons_succ]
        refine AnyT.takeD (i := 13) (d := some 44) (v := .pointer (some (pad.add k))) rfl rfl (by kernel_rfl) (by kernel_rfl) (by kernel_rfl) (by kernel_rfl) (fun _ _ _ h => h) (Or.inl ⟨by rfl, fun wz _ => by go_simp⟩) F0 ?_
        simp only [Act.put, List.setIfInBounds_toArray, List.set_cons_zero, List.set_cons_succ]
        refine AnyT.takeD (i := 14) (d := some 45) (v := .int .i64 z) rfl rfl (by kernel_rfl) (by kernel_rfl) (by kernel_rfl) (by kernel_rfl) (fun _ _ _ h => h) (Or.inl ⟨by rfl, fun wz hz => by obtain ⟨z3, z4⟩ := hz; go_simp⟩) F0 ?_
        simp only [Act.put, List.setIfInBounds_toArray, List.set_cons_zero, List.set_cons_succ]
        refine AnyT.takeD (i := 15) (d := some 46) (v := .int .i64 (z % 256)) rfl rfl (by kernel_rfl) (by kernel_rfl) (by kernel_rfl) (by kernel_rfl) (fun _ _ _ h => h) (Or.inl ⟨by rfl, fun wz _ => by go_simp; exact HQR.out.2.2.1⟩) F0 ?_
        simp only [Act.put, List.setIfInBounds_toArray, List.set_cons_zero, List.set_cons_succ]
        refine AnyT.takeD (i := 16) (d := some 47) (v := .int .u8 (z % 256)) rfl rfl (by kernel_rfl) (by kernel_rfl) (by kernel_rfl) (by kernel_rfl) (fun _ _ _ h => h) (Or.inl ⟨by rfl, fun wz _ => by go_simp; exact HQR.out.2.2.2⟩) F0 ?_
        simp only [Act.put, List.setIfInBounds_toArray, List.set_cons_zero, List.set_cons_succ]
        refine AnyT.branch (rs := [17]) (by kernel_rfl) (by simp) ?_
        refine all_cons (?_) all_nil
        obtain ⟨x1, e1⟩ : ∃ q, q = x0.alloc (.cells #[.int .u8 (z / 256), .int .u8 (z % 256)] 5) := ⟨_, rfl⟩
        have SU := Lib.hid (S.out.under HX0.out)
        have HX1 := Lib.hid (show Below x0.heap.size x0 x1 by rw [e1]; exact (Below.refl _ _).alloc (Nat.le_refl _) _)
        refine AnyT.yield (i := 17) (d := some 48) (v := .slice (some ⟨x0.heap.size, 0, none⟩) 2 2) (w' := x1) rfl rfl rfl (by rw [e1]; go_simp) (fun _ => ⟨(HX1.out.cell (p := ⟨b, 1, none⟩) (by have := HQ2.out.lt; have := S.out.bel.size; have := HX0.out.size; show b < _; omega)).trans F0.1, (HX1.out.cell (p := pad.add k) (by have := HP.out; have := S.out.bel.size; have := HX0.out.size; rw [add_block]; omega)).trans F0.2⟩) ?_
        simp only [Act.put, List.setIfInBounds_toArray, List.set_cons_zero, List.set_cons_succ]
        refine AnyT.branch (rs := [18]) (by kernel_rfl) (by simp) ?_
        refine all_cons (?_) all_nil
        refine AnyT.apd (i := 18) (d := some 49) rfl rfl rfl (.tmp 31) (.tmp 48) rfl w2.heap.size u5 L rfl (by rw [e1]; exact SU.out.own.alloc _) [z / 256, z % 256] x0 e1 2 2 rfl (by decide) rfl (by have := HL.out; omega) (by rw [e1]; exact SU.out.le _) ?_
        intro v1 x2 O1 A1
        have S1 := Lib.hid (show BSt w2 x2 v1 (L ++ [z / 256, z % 256]) from SU.out.step (.cells #[.int .u8 (z / 256), .int .u8 (z % 256)] 5) O1 (by rw [e1] at A1; exact A1))
        refine ⟨fun _ => ⟨(S1.out.bel.cell (p := ⟨b, 1, none⟩) HQ2.out.lt).trans HQ2.out.c1, (S1.out.bel.cell (p := pad.add k) (by rw [add_block]; exact HP.out)).trans HCP.out⟩, ?_⟩
        simp only [Act.put, List.setIfInBounds_toArray, List.set_cons_zero, List.set_cons_succ]
        refine AnyT.takePD (i := 19) (d := some 5) (v := v1) rfl rfl (by kernel_rfl) (by kernel_rfl) (by kernel_rfl) (by kernel_rfl) (fun _ _ _ h => h) (Or.inl ⟨by rfl, fun wz _ => by go_simp⟩) ?_
        simp only [Act.put, List.setIfInBounds_toArray, List.set_cons_zero, List.set_cons_succ]
        refine AnyT.done_ (by kernel_rfl) ?_ _
        clear O1 A1 e1 HX1 SU S HX0 F0
        go_wp2_with fail
        go_roundw
        case rel =>
          refine ⟨k + 1, by omega, by go_num, Lib.hid ?_⟩
          rw [HT.out, ← List.append_assoc, ← HLE.out]; exact S1.out
        case measure => simp [intOf]; omega
      · obtain rfl : k = n := by omega
        have HT := Lib.hid (show v.take k = v by rw [HN.out]; exact List.take_length)
        rw [HT.out] at S
        have HL := Lib.hid (show ([st, (k : Int)] ++ v.flatMap pair2).length ≤ 200 by rw [List.length_append, fl_len, ← HN.out]; show 2 + _ ≤ _; omega)
        obtain ⟨L, hL⟩ : ∃ L, L = [st, (k : Int)] ++ v.flatMap pair2 := ⟨_, rfl⟩
        have HLE := Lib.hid hL
        rw [← hL] at S HL
        clear hL hlt hk HT
        have hz := HL.out
        have hb2 := HB2.out.size
        have HS := Lib.hid (fun v1 w3 O1 A1 => S.out.step (L' := L ++ [(m : Int)]) (u' := v1) (w' := w3) (.cells #[.int .u8 (m : Int)] 5) O1 A1)
        go_upto_region 9 with fail
        go_upto_region 10 with (first | (at_builtin; refine wpList_apd _ rfl (.tmp 50) (.tmp 55) rfl w2.heap.size _ L rfl (S.out.own.alloc _) [(m : Int)] wr rfl 1 1 rfl (by decide) rfl (by omega) (S.out.le _) ?_; intro v1 w3 O1 A1; have S1 := Lib.hid (HS.out v1 w3 O1 A1); clear q0 q1 q2 ql Q3))
        clear O1 A1 HS S
        go_wp2_with fail
        go_loopw [5, 7] (fun u iv wr => ∃ j : Nat, j ≤ m ∧ iv = .int .i64 (j : Int) ∧ Hid (BSt w2 wr u (L ++ [(m : Int)] ++ ch.take j))) (fun _ iv _ => m - (intOf iv).toNat)
        case atStart => exact ⟨0, by omega, rfl, by rw [List.take_zero, List.append_nil]; exact S1⟩
        case round =>
          clear S1
          obtain ⟨j, hj, rfl, S⟩ := hrel
          have Q3 := Lib.hid (HQ2.out.below S.out.bel HQ2.out.lt)
          obtain ⟨q0, q1, q2, -, ql⟩ := Q3.out
          by_cases hlt : j < m
          · have hji : (j : Int) < (m : Int) := by omega
            have hjl : j < ch.length := by rw [← HM.out]; exact hlt
            obtain ⟨pad, rfl, plt, cp⟩ := (HC2.out.under S.out.bel) j hjl
            obtain ⟨z0, z1⟩ := HCB.out j hlt
            have HT := Lib.hid (take_one hjl)
            have HL2 := Lib.hid (show (L ++ [(m : Int)] ++ ch.take j).length ≤ 300 by rw [List.length_append, List.length_append, List.length_take]; show _ + 1 + _ ≤ _; omega)
            generalize ch.getD j 0 = z at *
            obtain ⟨L2, hL2⟩ : ∃ L2, L2 = L ++ [(m : Int)] ++ ch.take j := ⟨_, rfl⟩
            have HLE2 := Lib.hid hL2
            rw [← hL2] at S HL2
            clear hL2
            have hz2 := HL2.out
            go_wp2_with (first | (at_builtin; refine wpList_apd _ rfl (.tmp 64) (.tmp 71) rfl w2.heap.size _ L2 rfl (S.out.own.alloc _) [z] wr rfl 1 1 rfl (by decide) rfl (by omega) (S.out.le _) ?_; intro v1 w3 O1 A1))
            go_roundw
            case rel =>
              refine ⟨j + 1, by omega, by go_num, Lib.hid ?_⟩
              have S1 := S.out.step _ O1 A1
              rw [HT.out, ← List.append_assoc, ← HLE2.out]; exact S1
            case measure => simp [intOf]; omega
          · obtain rfl : j = m := by omega
            have HT := Lib.hid (show ch.take j = ch by rw [HM.out]; exact List.take_length)
            have HX := Lib.hid (show L ++ [(j : Int)] ++ ch.take j = encL st v ch by rw [HT.out, HLE.out]; unfold encL; rw [← HN.out, ← HM.out])
            rw [HX.out] at S
            go_wp2_with fail
            go_ret2
            refine ⟨_, by rw [HF.out]; rfl, ?_, HB2.out.trans (S.out.bel.mono hb2)⟩
            rw [if_pos HF.out]
            exact S.out.own.base hb2
  · have hne : (encE st v ch != 0) = true := bne_iff_ne.2 he
    have HF := Lib.hid he
    generalize hE : encE st v ch = E at *
    have HEQ := Lib.hid hE
    clear hE he
    go_wp2_with fail
    go_ret2
    exact ⟨_, by rw [HEQ.out]; rfl, by rw [HEQ.out, if_neg HF.out]; exact Own.nil, HB2.out⟩
end Go.Proofs.Ytlagadbkencpbaa

namespace Go.Proofs.Ytlagadbkencpbaa
open Go.RowKit Go.Lib

theorem wrapD (z : Int) (h0 : -9223372036854775808 ≤ z) (h1 : z ≤ 9223372036854775807) : IntKind.i64.wrap z = z := by rw [IntKind.wrap_i64]; omega
theorem list2_more (bs : List Int) (i k : Nat) : list2 bs i (k + 1) = list2 bs i k ++ [val2 bs (i + 2 * k)] := by unfold list2; rw [List.range_succ, List.map_append]; rfl
theorem list1_more (bs : List Int) (i k : Nat) : list1 bs i (k + 1) = list1 bs i k ++ [val1 bs (i + 1 * k)] := by unfold list1; rw [List.range_succ, List.map_append]; rfl
/-- While the reference reads a proof. -/
structure DSt (w wr : World) (g : Nat) (st : Int) (A : Option Addr) (n c : Nat) (B : Option Addr) (m d : Nat) (v u : List Int) : Prop where
  box : QBox wr (g + 1) st A n c B m d
  res : QBox wr g 0 none 0 0 none 0 0
  ov : Own .i64 3 wr (g + 2) (.slice A n c) v
  ou : Own .i64 3 wr (g + 2) (.slice B m d) u
  ne : ∀ q, (Value.slice A n c).ownBlock = some q → (Value.slice B m d).ownBlock = some q → False
  bel : Below w.heap.size w wr
  gq : g = w.heap.size
section
variable {g n c m d : Nat} {w wr w' : World} {st : Int} {A B : Option Addr} {v u : List Int}
theorem DSt.under (h : DSt w wr g st A n c B m d v u) (k : Below wr.heap.size wr w') : DSt w w' g st A n c B m d v u :=
  ⟨h.box.below k h.box.lt, h.res.below k h.res.lt, h.ov.below k, h.ou.below k, h.ne, h.bel.trans (k.mono h.bel.size), h.gq⟩
theorem DSt.moreV (h : DSt w wr g st A n c B m d v u) {y : Int} {v' : Value} (P : AppI (g + 2) (.slice A n c) v y wr v' w') :
    ∃ A' n' c', v' = .slice A' n' c' ∧ QBox w' (g + 1) st A n c B m d ∧ Below w.heap.size w w' ∧ DSt w (w'.setCell ⟨g + 1, 1, none⟩ (.slice A' n' c')) g st A' n' c' B m d (v ++ [y]) u := by
  obtain ⟨O, k, e, c', rfl, hlt, hat⟩ := P
  have hg := h.gq
  have hs := h.box.lt
  have BB : Below (g + 2) wr w' := (Below.refl (g + 2) wr).grown k (by omega) (fun j hj => (own_block h.ov hj).1)
  have X := h.box.below BB (by omega)
  have hv' : ∀ q, (Value.slice (some ⟨e, 0, none⟩) (v.length + 1) c').ownBlock = some q → g + 2 ≤ q := fun q e => (own_block O e).1
  refine ⟨_, _, _, rfl, X, h.bel.trans (BB.mono (by omega)), X.set1 _ _ _, (h.res.below BB (by omega)).setO (by show g + 1 ≠ g; omega) _, O.setN (p := ⟨g + 1, 1, none⟩) (fun q e => by have := hv' q e; show q ≠ g + 1; omega) _, (h.ou.kept k ?_).setN (p := ⟨g + 1, 1, none⟩) (fun q e => by have := (own_block h.ou e).1; show q ≠ g + 1; omega) _, ?_, (h.bel.trans (BB.mono (by omega))).setCell (by show w.heap.size ≤ g + 1; omega) _, hg⟩
  · cases e2 : (Value.slice B m d).ownBlock with
    | none => exact Or.inl rfl
    | some q => exact Or.inr (fun e3 => h.ne q e3.symm e2)
  · intro q e1 e2
    have e3 : e = q := by simpa [Value.ownBlock] using e1
    subst e3
    rcases hat with h1 | h1
    · exact h.ne e h1 e2
    · have := (own_block h.ou e2).2; omega
theorem DSt.moreU (h : DSt w wr g st A n c B m d v u) {y : Int} {v' : Value} (P : AppI (g + 2) (.slice B m d) u y wr v' w') :
    ∃ A' n' c', v' = .slice A' n' c' ∧ QBox w' (g + 1) st A n c B m d ∧ Below w.heap.size w w' ∧ DSt w (w'.setCell ⟨g + 1, 2, none⟩ (.slice A' n' c')) g st A n c A' n' c' v (u ++ [y]) := by
  obtain ⟨O, k, e, c', rfl, hlt, hat⟩ := P
  have hg := h.gq
  have hs := h.box.lt
  have BB : Below (g + 2) wr w' := (Below.refl (g + 2) wr).grown k (by omega) (fun j hj => (own_block h.ou hj).1)
  have X := h.box.below BB (by omega)
  have hv' : ∀ q, (Value.slice (some ⟨e, 0, none⟩) (u.length + 1) c').ownBlock = some q → g + 2 ≤ q := fun q e => (own_block O e).1
  refine ⟨_, _, _, rfl, X, h.bel.trans (BB.mono (by omega)), X.set2 _ _ _, (h.res.below BB (by omega)).setO (by show g + 1 ≠ g; omega) _, (h.ov.kept k ?_).setN (p := ⟨g + 1, 2, none⟩) (fun q e => by have := (own_block h.ov e).1; show q ≠ g + 1; omega) _, O.setN (p := ⟨g + 1, 2, none⟩) (fun q e => by have := hv' q e; show q ≠ g + 1; omega) _, ?_, (h.bel.trans (BB.mono (by omega))).setCell (by show w.heap.size ≤ g + 1; omega) _, hg⟩
  · cases e2 : (Value.slice A n c).ownBlock with
    | none => exact Or.inl rfl
    | some q => exact Or.inr (fun e3 => h.ne q e2 e3.symm)
  · intro q e1 e2
    have e3 : e = q := by simpa [Value.ownBlock] using e2
    subst e3
    rcases hat with h1 | h1
    · exact h.ne e e1 h1
    · have := (own_block h.ov e1).2; omega
end
set_option maxRecDepth 100000 in
set_option maxHeartbeats 6400000 in
theorem rdec_any (bs : List Int) (A : Option Addr) (N c : Nat) (hn : N = bs.length) (hc : N ≤ c ∧ c ≤ maxLen) (hb : BB8 bs) (w : World) (h : Row .u8 w w.heap.size A bs) :
    Calls Try.prog 24 #[.slice A N c] w (DecPost bs w) := by
  have HB1 := Lib.hid ((Below.refl w.heap.size w).alloc (Nat.le_refl _) (qcells 0 none 0 0 none 0 0))
  have Q1 := Lib.hid (QBox.new (w := w) (st := 0) (A := none) (n := 0) (c := 0) (B := none) (m := 0) (d := 0) w.heap.size rfl)
  have hs1 : (w.alloc (qcells 0 none 0 0 none 0 0)).heap.size = w.heap.size + 1 := by simp
  obtain ⟨g, hg⟩ : ∃ g, g = w.heap.size := ⟨_, rfl⟩
  have HDR := Lib.hid (show decR bs = if bs.length < endD bs then 10 else if endD bs < bs.length then 11 else encE (stD bs) (vD bs) (chD bs) from rfl)
  have HZ := Lib.hid (fun (q : decR bs ≠ 0) => show stZ bs = 0 ∧ vZ bs = [] ∧ chZ bs = [] from ⟨if_neg q, if_neg q, if_neg q⟩)
  have HO := Lib.hid (fun (q : decR bs = 0) => show stZ bs = stD bs ∧ vZ bs = vD bs ∧ chZ bs = chD bs from ⟨if_pos q, if_pos q, if_pos q⟩)
  have FZ := Lib.hid (fun (er : Int) (W : World) (h0 : decR bs = er) (he : er ≠ 0) (k : Below w.heap.size w W) => show DecPost bs w (.returned (.tuple #[qv 0 none 0 0 none 0 0, .int .i64 er])) (((W.setCell ⟨w.heap.size, 0, none⟩ (.int .i64 0)).setCell ⟨w.heap.size, 1, none⟩ (.slice none 0 0)).setCell ⟨w.heap.size, 2, none⟩ (.slice none 0 0)) from by
    obtain ⟨z1, z2, z3⟩ := HZ.out (by rw [h0]; exact he)
    refine ⟨none, 0, 0, none, 0, 0, by rw [z1, h0], by rw [z2]; exact Own.nil, by rw [z3]; exact Own.nil, ?_⟩
    exact ((k.setCell (p := ⟨w.heap.size, 0, none⟩) (Nat.le_refl _) _).setCell (p := ⟨w.heap.size, 1, none⟩) (Nat.le_refl _) _).setCell (p := ⟨w.heap.size, 2, none⟩) (Nat.le_refl _) _)
  have HN := Lib.hid hn
  have HBD := Lib.hid hb
  have hcm : c ≤ 9223372036854775807 := hc.2
  have hNm : N ≤ 9223372036854775807 := Nat.le_trans hc.1 hcm
  have HED := Lib.hid (show endD bs = 3 + 2 * nD bs + mD bs from rfl)
  have HROW := Lib.hid h
  have HNE := Lib.hid (nD_eq hb)
  have HME := Lib.hid (mD_eq hb)
  clear hc hb h hn
  go_enter Try.func24, Try.ntmps24
  go_upto_region 1 with fail
  rw [← hg] at Q1 FZ hs1 ⊢
  have HG := Lib.hid hg
  generalize w.alloc (qcells 0 none 0 0 none 0 0) = w1 at *
  clear hg
  have PP := Lib.hid (Q1.out.put)
  by_cases h2 : N < 2
  · have HE := Lib.hid (show decR bs = 10 by
      rw [HDR.out, if_pos (by rw [HED.out, ← HN.out]; omega)])
    have h2i : (N : Int) < 2 := by omega
    obtain ⟨q0, q1, q2, qf, ql⟩ := Q1.out
    have f0 := qf 0
    have f1 := qf 1
    have f2 := qf 2
    clear qf
    go_wp2_with fail
    refine bodyPost_ret (results_proof rfl _ _ g 0 10 none none 0 0 0 0 rfl rfl (PP.out 0 none 0 0 none 0 0)) rfl ?_
    have := FZ.out 10 w1 HE.out (by decide) (by rw [HG.out]; exact HB1.out)
    exact this
  · have h2i : ¬ (N : Int) < 2 := by omega
    obtain ⟨pad, rfl, plt, -⟩ := HROW.out 1 (by rw [← HN.out]; omega)
    have HCL := Lib.hid (show ∀ (W : World), Below w.heap.size w W → ∀ j, j < N → W.cell? (pad.add j) = some (.int .u8 (bs.getD j 0)) from fun W k j hj => by
      obtain ⟨p, e, hl, hv⟩ := HROW.out j (by rw [← HN.out]; exact hj)
      injection e with e
      subst e
      exact (k.cell (p := pad.add j) (by rw [add_block]; exact hl)).trans hv)
    obtain ⟨n, hnq⟩ : ∃ n, n = nD bs := ⟨_, rfl⟩
    have hn255 : n ≤ 255 := by have := (HBD.out.at_ 1).2; have := HNE.out; omega
    have HNQ := Lib.hid hnq
    have c1 : w1.cell? ⟨pad.block, pad.off + 1, none⟩ = some (.int .u8 (n : Int)) := by
      have := HCL.out w1 HB1.out 1 (by omega)
      rw [HNE.out, ← hnq] at this
      exact this
    clear hnq plt HROW
    by_cases h3 : N < 3 + 2 * n
    · have HE := Lib.hid (show decR bs = 10 by
        rw [HDR.out, if_pos (by rw [HED.out, ← HN.out, ← HNQ.out]; omega)])
      have h3i : (N : Int) < 3 + 2 * (n : Int) := by omega
      have h1i : (1 : Int) < (N : Int) := by omega
      obtain ⟨q0, q1, q2, qf, ql⟩ := Q1.out
      have f0 := qf 0
      have f1 := qf 1
      have f2 := qf 2
      clear qf
      go_wp2_with fail
      refine bodyPost_ret (results_proof rfl _ _ g 0 10 none none 0 0 0 0 rfl rfl (PP.out 0 none 0 0 none 0 0)) rfl ?_
      have := FZ.out 10 w1 HE.out (by decide) (by rw [HG.out]; exact HB1.out)
      exact this
    · have h3i : ¬ (N : Int) < 3 + 2 * (n : Int) := by omega
      have h1i : (1 : Int) < (N : Int) := by omega
      obtain ⟨m, hmq⟩ : ∃ m, m = mD bs := ⟨_, rfl⟩
      have hm255 : m ≤ 255 := by have := (HBD.out.at_ (2 + 2 * nD bs)).2; have := HME.out; omega
      have HMQ := Lib.hid hmq
      have cm : w1.cell? (pad.add (2 + 2 * n)) = some (.int .u8 (m : Int)) := by
        have := HCL.out w1 HB1.out (2 + 2 * n) (by omega)
        rw [HNQ.out, HME.out, ← hmq, ← HNQ.out] at this
        exact this
      have hi2l : 2 + 2 * (n : Int) < (N : Int) := by omega
      have HEN := Lib.hid (show endD bs = 3 + 2 * n + m by rw [HED.out, HNQ.out, HMQ.out])
      clear hmq HED
      by_cases h4 : N < 3 + 2 * n + m
      · have HE := Lib.hid (show decR bs = 10 by rw [HDR.out, if_pos (by rw [HEN.out, ← HN.out]; exact h4)])
        have h4i : (N : Int) < 3 + 2 * (n : Int) + (m : Int) := by omega
        obtain ⟨q0, q1, q2, qf, ql⟩ := Q1.out
        have f0 := qf 0
        have f1 := qf 1
        have f2 := qf 2
        clear qf
        go_wp2_with fail
        refine bodyPost_ret (results_proof rfl _ _ g 0 10 none none 0 0 0 0 rfl rfl (PP.out 0 none 0 0 none 0 0)) rfl ?_
        have := FZ.out 10 w1 HE.out (by decide) (by rw [HG.out]; exact HB1.out)
        exact this
      · have h4i : ¬ (N : Int) < 3 + 2 * (n : Int) + (m : Int) := by omega
        by_cases h5 : 3 + 2 * n + m < N
        · have HE := Lib.hid (show decR bs = 11 by rw [HDR.out, if_neg (by rw [HEN.out, ← HN.out]; exact h4), if_pos (by rw [HEN.out, ← HN.out]; exact h5)])
          have h5i : 3 + 2 * (n : Int) + (m : Int) < (N : Int) := by omega
          obtain ⟨q0, q1, q2, qf, ql⟩ := Q1.out
          have f0 := qf 0
          have f1 := qf 1
          have f2 := qf 2
          clear qf
          go_wp2_with fail
          refine bodyPost_ret (results_proof rfl _ _ g 0 11 none none 0 0 0 0 rfl rfl (PP.out 0 none 0 0 none 0 0)) rfl ?_
          have := FZ.out 11 w1 HE.out (by decide) (by rw [HG.out]; exact HB1.out)
          exact this
        · have h5i : ¬ 3 + 2 * (n : Int) + (m : Int) < (N : Int) := by omega
          have HE := Lib.hid (show decR bs = encE (stD bs) (vD bs) (chD bs) by rw [HDR.out, if_neg (by rw [HEN.out, ← HN.out]; exact h4), if_neg (by rw [HEN.out, ← HN.out]; exact h5)])
          have HLEN := Lib.hid (show N = 3 + 2 * n + m by omega)
          have HVD := Lib.hid (show vD bs = list2 bs 2 n by rw [HNQ.out]; rfl)
          have HCD := Lib.hid (show chD bs = list1 bs (3 + 2 * n) m by rw [HNQ.out, HMQ.out]; rfl)
          have hst0 := (HBD.out.at_ 0)
          have c0 : w1.cell? pad = some (.int .u8 (stD bs)) := by
            have := HCL.out w1 HB1.out 0 (by omega)
            exact this
          have HST := Lib.hid hst0
          have X2 := Lib.hid (QBox.new (w := w1) (st := stD bs) (A := none) (n := 0) (c := 0) (B := none) (m := 0) (d := 0) (g + 1) hs1.symm)
          have BX2 := (Below.refl (g + 1) w1).alloc (Nat.le_of_eq hs1.symm) (qcells (stD bs) none 0 0 none 0 0)
          have S0 := Lib.hid (show DSt w _ g (stD bs) none 0 0 none 0 0 [] [] from ⟨X2.out, Q1.out.below BX2 (Nat.lt_succ_self _), Own.nil, Own.nil, (fun q e => by simp [Value.ownBlock] at e), HB1.out.trans (BX2.mono (by rw [HG.out]; exact Nat.le_succ _)), HG.out⟩)
          have hz0 : 0 ≤ stD bs ∧ stD bs ≤ 255 := hst0
          obtain ⟨hz1, hz2⟩ := hz0
          generalize hsq : stD bs = st at *
          have HSQ := Lib.hid hsq
          clear hsq BX2 X2 HZ HDR PP h2 h3 h4 h5 hst0
          go_upto_region 11 with fail
          clear c0 c1 cm hs1 Q1 HB1 hz1 hz2
          generalize w1.alloc (qcells st none 0 0 none 0 0) = w2 at *
          go_loopw [7] (fun iv wr => ∃ (k : Nat) (A : Option Addr) (n' c' : Nat), k ≤ n ∧ iv = .int .i64 (k : Int) ∧ Hid (DSt w wr g st A n' c' none 0 0 (list2 bs 2 k) [])) (fun iv _ => n - (intOf iv).toNat)
          case atStart => exact ⟨0, none, 0, 0, by omega, rfl, S0⟩
          case round =>
            clear S0
            obtain ⟨k, A, n', c', hk, rfl, S⟩ := hrel
            by_cases hlt : k < n
            · have hki : (k : Int) < (n : Int) := by omega
              have hN := HLEN.out
              have ha1 : 2 + 2 * (k : Int) < (N : Int) := by omega
              have ha2 : 3 + 2 * (k : Int) < (N : Int) := by omega
              have hp1 : 0 ≤ 2 + 2 * (k : Int) := by omega
              have hp2 : 0 ≤ 3 + 2 * (k : Int) := by omega
              have ht1 : (2 + 2 * (k : Int)).toNat = 2 + 2 * k := by omega
              have ht2 : (3 + 2 * (k : Int)).toNat = 3 + 2 * k := by omega
              obtain ⟨zx, hzx⟩ : ∃ z, z = bs.getD (2 + 2 * k) 0 := ⟨_, rfl⟩
              obtain ⟨zy, hzy⟩ : ∃ z, z = bs.getD (3 + 2 * k) 0 := ⟨_, rfl⟩
              have HVL := Lib.hid (show val2 bs (2 + 2 * k) = zx * 256 + zy by unfold val2; rw [show 2 + 2 * k + 1 = 3 + 2 * k by omega, hzx, hzy])
              have hx1 : 0 ≤ zx ∧ zx ≤ 255 := by rw [hzx]; exact HBD.out.at_ _
              have hy1 : 0 ≤ zy ∧ zy ≤ 255 := by rw [hzy]; exact HBD.out.at_ _
              obtain ⟨hx1, hx2⟩ := hx1
              obtain ⟨hy1, hy2⟩ := hy1
              have HCX := Lib.hid (show ∀ X, Below w.heap.size w X → X.cell? (pad.add (2 + 2 * k)) = some (.int .u8 zx) ∧ X.cell? (pad.add (3 + 2 * k)) = some (.int .u8 zy) from fun X B => ⟨by rw [hzx]; exact HCL.out X B _ (by omega), by rw [hzy]; exact HCL.out X B _ (by omega)⟩)
              have HLL := Lib.hid (show (list2 bs 2 k).length + 1 ≤ 1000000000 by rw [list2_len]; omega)
              clear hzx hzy hN
              go_upto_region 13 with fail
              obtain ⟨y0, e0⟩ : ∃ x, x = wr.drew := ⟨_, rfl⟩
              have T0 := Lib.hid (show DSt w y0 g st A n' c' none 0 0 (list2 bs 2 k) [] by rw [e0]; exact S.out.under (Below.refl _ _).drew)
              have F0 := And.intro T0.out.box.c1 (HCX.out y0 T0.out.bel)
              have HE0 := Lib.hid e0
              clear e0 S
              refine AnyT.begin_at (tlGe 21) (fun X => X.cell? ⟨g + 1, 1, none⟩ = some (.slice A n' c') ∧ X.cell? (pad.add (2 + 2 * k)) = some (.int .u8 zx) ∧ X.cell? (pad.add (3 + 2 * k)) = some (.int .u8 zy)) (by kernel_rfl) HE0.out F0 ?_
              clear F0 HE0
              intro F0
              refine AnyT.takeD (i := 0) (d := some 61) (v := .pointer (some ⟨g + 1, 0, none⟩)) rfl rfl (by kernel_rfl) (by kernel_rfl) (by kernel_rfl) (by kernel_rfl) (fun _ _ _ h => h) (Or.inl ⟨by rfl, fun wz _ => by go_simp⟩) F0 ?_
              simp only [Act.put, List.setIfInBounds_toArray, List.set_cons_zero, List.set_cons_succ]
              refine AnyT.takeD (i := 1) (d := some 62) (v := .pointer (some ⟨g + 1, 1, none⟩)) rfl rfl (by kernel_rfl) (by kernel_rfl) (by kernel_rfl) (by kernel_rfl) (fun _ _ _ h => h) (Or.inl ⟨by rfl, fun wz _ => by go_simp⟩) F0 ?_
              simp only [Act.put, List.setIfInBounds_toArray, List.set_cons_zero, List.set_cons_succ]
              refine AnyT.takeD (i := 2) (d := some 63) (v := .slice A n' c') rfl rfl (by kernel_rfl) (by kernel_rfl) (by kernel_rfl) (by kernel_rfl) (fun _ _ _ h => h) (Or.inl ⟨by rfl, fun wz hz => by obtain ⟨z3, z4, z5⟩ := hz; go_simp⟩) F0 ?_
              simp only [Act.put, List.setIfInBounds_toArray, List.set_cons_zero, List.set_cons_succ]
              refine AnyT.takeD (i := 3) (d := some 64) (v := .slice (some pad) N c) rfl rfl (by kernel_rfl) (by kernel_rfl) (by kernel_rfl) (by kernel_rfl) (fun _ _ _ h => h) (Or.inl ⟨by rfl, fun wz _ => by go_simp⟩) F0 ?_
              simp only [Act.put, List.setIfInBounds_toArray, List.set_cons_zero, List.set_cons_succ]
              refine AnyT.takeD (i := 4) (d := some 65) (v := .int .i64 (k : Int)) rfl rfl (by kernel_rfl) (by kernel_rfl) (by kernel_rfl) (by kernel_rfl) (fun _ _ _ h => h) (Or.inl ⟨by rfl, fun wz _ => by go_simp⟩) F0 ?_
              simp only [Act.put, List.setIfInBounds_toArray, List.set_cons_zero, List.set_cons_succ]
              refine AnyT.takeD (i := 5) (d := some 66) (v := .int .i64 (2 * (k : Int))) rfl rfl (by kernel_rfl) (by kernel_rfl) (by kernel_rfl) (by kernel_rfl) (fun _ _ _ h => h) (Or.inl ⟨by rfl, fun wz _ => by go_simp <;> (refine wrapD _ ?_ ?_ <;> omega)⟩) F0 ?_
              simp only [Act.put, List.setIfInBounds_toArray, List.set_cons_zero, List.set_cons_succ]
              refine AnyT.takeD (i := 6) (d := some 67) (v := .int .i64 (2 + 2 * (k : Int))) rfl rfl (by kernel_rfl) (by kernel_rfl) (by kernel_rfl) (by kernel_rfl) (fun _ _ _ h => h) (Or.inl ⟨by rfl, fun wz _ => by go_simp <;> (refine wrapD _ ?_ ?_ <;> omega)⟩) F0 ?_
              simp only [Act.put, List.setIfInBounds_toArray, List.set_cons_zero, List.set_cons_succ]
              refine AnyT.takeD (i := 7) (d := some 68) (v := .pointer (some (pad.add (2 + 2 * k)))) rfl rfl (by kernel_rfl) (by kernel_rfl) (by kernel_rfl) (by kernel_rfl) (fun _ _ _ h => h) (Or.inl ⟨by rfl, fun wz _ => by go_simp⟩) F0 ?_
              simp only [Act.put, List.setIfInBounds_toArray, List.set_cons_zero, List.set_cons_succ]
              refine AnyT.takeD (i := 8) (d := some 69) (v := .int .u8 zx) rfl rfl (by kernel_rfl) (by kernel_rfl) (by kernel_rfl) (by kernel_rfl) (fun _ _ _ h => h) (Or.inl ⟨by rfl, fun wz hz => by obtain ⟨z3, z4, z5⟩ := hz; go_simp⟩) F0 ?_
              simp only [Act.put, List.setIfInBounds_toArray, List.set_cons_zero, List.set_cons_succ]
              refine AnyT.takeD (i := 9) (d := some 70) (v := .int .i64 zx) rfl rfl (by kernel_rfl) (by kernel_rfl) (by kernel_rfl) (by kernel_rfl) (fun _ _ _ h => h) (Or.inl ⟨by rfl, fun wz _ => by go_simp <;> (refine wrapD _ ?_ ?_ <;> omega)⟩) F0 ?_
              simp only [Act.put, List.setIfInBounds_toArray, List.set_cons_zero, List.set_cons_succ]
              refine AnyT.takeD (i := 10) (d := some 71) (v := .int .i64 (zx * 256)) rfl rfl (by kernel_rfl) (by kernel_rfl) (by kernel_rfl) (by kernel_rfl) (fun _ _ _ h => h) (Or.inl ⟨by rfl, fun wz _ => by go_simp <;> (refine wrapD _ ?_ ?_ <;> omega)⟩) F0 ?_
              simp only [Act.put, List.setIfInBounds_toArray, List.set_cons_zero, List.set_cons_succ]
              refine AnyT.takeD (i := 11) (d := some 72) (v := .slice (some pad) N c) rfl rfl (by kernel_rfl) (by kernel_rfl) (by kernel_rfl) (by kernel_rfl) (fun _ _ _ h => h) (Or.inl ⟨by rfl, fun wz _ => by go_simp⟩) F0 ?_
              simp only [Act.put, List.setIfInBounds_toArray, List.set_cons_zero, List.set_cons_succ]
              refine AnyT.takeD (i := 12) (d := some 73) (v := .int .i64 (k : Int)) rfl rfl (by kernel_rfl) (by kernel_rfl) (by kernel_rfl) (by kernel_rfl) (fun _ _ _ h => h) (Or.inl ⟨by rfl, fun wz _ => by go_simp⟩) F0 ?_
              simp only [Act.put, List.setIfInBounds_toArray, List.set_cons_zero, List.set_cons_succ]
              refine AnyT.takeD (i := 13) (d := some 74) (v := .int .i64 (2 * (k : Int))) rfl rfl (by kernel_rfl) (by kernel_rfl) (by kernel_rfl) (by kernel_rfl) (fun _ _ _ h => h) (Or.inl ⟨by rfl, fun wz _ => by go_simp <;> (refine wrapD _ ?_ ?_ <;> omega)⟩) F0 ?_
              simp only [Act.put, List.setIfInBounds_toArray, List.set_cons_zero, List.set_cons_succ]
              refine AnyT.takeD (i := 14) (d := some 75) (v := .int .i64 (3 + 2 * (k : Int))) rfl rfl (by kernel_rfl) (by kernel_rfl) (by kernel_rfl) (by kernel_rfl) (fun _ _ _ h => h) (Or.inl ⟨by rfl, fun wz _ => by go_simp <;> (refine wrapD _ ?_ ?_ <;> omega)⟩) F0 ?_
              simp only [Act.put, List.setIfInBounds_toArray, List.set_cons_zero, List.set_cons_succ]
              refine AnyT.takeD (i := 15) (d := some 76) (v := .pointer (some (pad.add (3 + 2 * k)))) rfl rfl (by kernel_rfl) (by kernel_rfl) (by kernel_rfl) (by kernel_rfl) (fun _ _ _ h => h) (Or.inl ⟨by rfl, fun wz _ => by go_simp⟩) F0 ?_
              simp only [Act.put, List.setIfInBounds_toArray, List.set_cons_zero, List.set_cons_succ]
              refine AnyT.takeD (i := 16) (d := some 77) (v := .int .u8 zy) rfl rfl (by kernel_rfl) (by kernel_rfl) (by kernel_rfl) (by kernel_rfl) (fun _ _ _ h => h) (Or.inl ⟨by rfl, fun wz hz => by obtain ⟨z3, z4, z5⟩ := hz; go_simp⟩) F0 ?_
              simp only [Act.put, List.setIfInBounds_toArray, List.set_cons_zero, List.set_cons_succ]
              refine AnyT.takeD (i := 17) (d := some 78) (v := .int .i64 zy) rfl rfl (by kernel_rfl) (by kernel_rfl) (by kernel_rfl) (by kernel_rfl) (fun _ _ _ h => h) (Or.inl ⟨by rfl, fun wz _ => by go_simp <;> (refine wrapD _ ?_ ?_ <;> omega)⟩) F0 ?_
              simp only [Act.put, List.setIfInBounds_toArray, List.set_cons_zero, List.set_cons_succ]
              refine AnyT.takeD (i := 18) (d := some 79) (v := .int .i64 (zx * 256 + zy)) rfl rfl (by kernel_rfl) (by kernel_rfl) (by kernel_rfl) (by kernel_rfl) (fun _ _ _ h => h) (Or.inl ⟨by rfl, fun wz _ => by go_simp <;> (refine wrapD _ ?_ ?_ <;> omega)⟩) F0 ?_
              simp only [Act.put, List.setIfInBounds_toArray, List.set_cons_zero, List.set_cons_succ]
              refine AnyT.branch (rs := [19]) (by kernel_rfl) (by simp) ?_
              refine all_cons (?_) all_nil
              obtain ⟨y1, e1⟩ : ∃ q, q = y0.alloc (.cells #[.int .i64 (zx * 256 + zy)] 3) := ⟨_, rfl⟩
              have T1 := Lib.hid (show DSt w y1 g st A n' c' none 0 0 (list2 bs 2 k) [] by rw [e1]; exact T0.out.under ((Below.refl _ _).alloc (Nat.le_refl _) _))
              refine AnyT.yield (i := 19) (d := some 80) (v := .slice (some ⟨y0.heap.size, 0, none⟩) 1 1) (w' := y1) rfl rfl rfl (by rw [e1]; go_simp) (fun _ => And.intro T1.out.box.c1 (HCX.out y1 T1.out.bel)) ?_
              simp only [Act.put, List.setIfInBounds_toArray, List.set_cons_zero, List.set_cons_succ]
              refine AnyT.branch (rs := [20]) (by kernel_rfl) (by simp) ?_
              refine all_cons (?_) all_nil
              refine AnyT.appI (i := 20) (d := some 81) rfl rfl rfl (.tmp 63) (.tmp 80) rfl (g + 2) (.slice A n' c') (list2 bs 2 k) rfl T1.out.ov (zx * 256 + zy) y0 e1 _ rfl 1 rfl HLL.out (by have := T1.out.box.lt; omega) ?_
              intro v' y2 AP
              obtain ⟨A', n2, c2, rfl, X3, B3, S3⟩ := T1.out.moreV AP
              refine ⟨fun _ => And.intro X3.c1 (HCX.out y2 B3), ?_⟩
              have X3 := Lib.hid X3
              have S3 := Lib.hid S3
              clear AP B3 e1 T1 T0 F0
              simp only [Act.put, List.setIfInBounds_toArray, List.set_cons_zero, List.set_cons_succ]
              refine AnyT.takePD (i := 21) (d := some 82) (v := .pointer (some ⟨g + 1, 0, none⟩)) rfl rfl (by kernel_rfl) (by kernel_rfl) (by kernel_rfl) (by kernel_rfl) (fun _ _ _ h => h) (Or.inl ⟨by rfl, fun wz _ => by go_simp⟩) ?_
              simp only [Act.put, List.setIfInBounds_toArray, List.set_cons_zero, List.set_cons_succ]
              refine AnyT.takePD (i := 22) (d := some 83) (v := .pointer (some ⟨g + 1, 1, none⟩)) rfl rfl (by kernel_rfl) (by kernel_rfl) (by kernel_rfl) (by kernel_rfl) (fun _ _ _ h => h) (Or.inl ⟨by rfl, fun wz _ => by go_simp⟩) ?_
              simp only [Act.put, List.setIfInBounds_toArray, List.set_cons_zero, List.set_cons_succ]
              refine AnyT.branch (rs := [23]) (by kernel_rfl) (by simp) ?_
              refine all_cons (?_) all_nil
              have z1 := X3.out.c1
              have z2 := X3.out.f 1
              refine AnyT.step (i := 23) rfl (fun KK hK => ?_)
              go_simp
              refine hK.out _ _ (fun h => absurd h (by decide)) ?_
              clear hK KK z1 z2 X3
              refine AnyT.done_ (by kernel_rfl) ?_ _
              generalize y2.setCell ⟨g + 1, 1, none⟩ (.slice A' n2 c2) = y3 at *
              go_wp2_with fail
              go_roundw
              case rel => exact ⟨k + 1, A', n2, c2, by omega, by go_num, Lib.hid (by rw [list2_more, HVL.out]; exact S3.out)⟩
              case measure => simp [intOf]; omega
            · obtain rfl : k = n := by omega
              have hki : ¬ (k : Int) < (k : Int) := by omega
              go_upto_region 15 with fail
              go_loopw [8] (fun iv wr => ∃ (j e : Nat) (B : Option Addr) (m' d' : Nat), j ≤ m ∧ e = 3 + 2 * k + j ∧ iv = .int .i64 (e : Int) ∧ Hid (DSt w wr g st A n' c' B m' d' (list2 bs 2 k) (list1 bs (3 + 2 * k) j))) (fun iv _ => 3 + 2 * k + m - (intOf iv).toNat)
              case atStart => exact ⟨0, 3 + 2 * k, none, 0, 0, by omega, rfl, by go_num, S⟩
              case round =>
                clear S
                obtain ⟨j, e, B, m', d', hj, he, rfl, S⟩ := hrel
                by_cases hlt2 : j < m
                · have hji : (e : Int) < 3 + 2 * (k : Int) + (m : Int) := by omega
                  have hN := HLEN.out
                  have ha1 : (e : Int) < (N : Int) := by omega
                  obtain ⟨zx, hzx⟩ : ∃ z, z = bs.getD e 0 := ⟨_, rfl⟩
                  have HVL := Lib.hid (show val1 bs (3 + 2 * k + 1 * j) = zx by unfold val1; rw [hzx, he, Nat.one_mul])
                  have hx1 : 0 ≤ zx ∧ zx ≤ 255 := by rw [hzx]; exact HBD.out.at_ _
                  obtain ⟨hx1, hx2⟩ := hx1
                  have HCX := Lib.hid (show ∀ X, Below w.heap.size w X → X.cell? (pad.add e) = some (.int .u8 zx) from fun X B => by rw [hzx]; exact HCL.out X B _ (by omega))
                  have HEQ := Lib.hid he
                  have HJM := Lib.hid hlt2
                  clear he hlt2
                  have HLL := Lib.hid (show (list1 bs (3 + 2 * k) j).length + 1 ≤ 1000000000 by rw [list1_len]; omega)
                  clear hzx hN
                  go_upto_region 17 with fail
                  obtain ⟨y0, e0⟩ : ∃ x, x = wr.drew := ⟨_, rfl⟩
                  have T0 := Lib.hid (show DSt w y0 g st A n' c' B m' d' (list2 bs 2 k) (list1 bs (3 + 2 * k) j) by rw [e0]; exact S.out.under (Below.refl _ _).drew)
                  have F0 := And.intro T0.out.box.c2 (HCX.out y0 T0.out.bel)
                  have HE0 := Lib.hid e0
                  clear e0 S
                  refine AnyT.begin_at (tlGe 9) (fun X => X.cell? ⟨g + 1, 2, none⟩ = some (.slice B m' d') ∧ X.cell? (pad.add e) = some (.int .u8 zx)) (by kernel_rfl) HE0.out F0 ?_
                  clear F0 HE0
                  intro F0
                  refine AnyT.takeD (i := 0) (d := some 92) (v := .pointer (some ⟨g + 1, 2, none⟩)) rfl rfl (by kernel_rfl) (by kernel_rfl) (by kernel_rfl) (by kernel_rfl) (fun _ _ _ h => h) (Or.inl ⟨by rfl, fun wz _ => by go_simp⟩) F0 ?_
                  simp only [Act.put, List.setIfInBounds_toArray, List.set_cons_zero, List.set_cons_succ]
                  refine AnyT.takeD (i := 1) (d := some 93) (v := .slice B m' d') rfl rfl (by kernel_rfl) (by kernel_rfl) (by kernel_rfl) (by kernel_rfl) (fun _ _ _ h => h) (Or.inl ⟨by rfl, fun wz hz => by obtain ⟨z3, z4⟩ := hz; go_simp⟩) F0 ?_
                  simp only [Act.put, List.setIfInBounds_toArray, List.set_cons_zero, List.set_cons_succ]
                  refine AnyT.takeD (i := 2) (d := some 94) (v := .slice (some pad) N c) rfl rfl (by kernel_rfl) (by kernel_rfl) (by kernel_rfl) (by kernel_rfl) (fun _ _ _ h => h) (Or.inl ⟨by rfl, fun wz _ => by go_simp⟩) F0 ?_
                  simp only [Act.put, List.setIfInBounds_toArray, List.set_cons_zero, List.set_cons_succ]
                  refine AnyT.takeD (i := 3) (d := some 95) (v := .int .i64 (e : Int)) rfl rfl (by kernel_rfl) (by kernel_rfl) (by kernel_rfl) (by kernel_rfl) (fun _ _ _ h => h) (Or.inl ⟨by rfl, fun wz _ => by go_simp⟩) F0 ?_
                  simp only [Act.put, List.setIfInBounds_toArray, List.set_cons_zero, List.set_cons_succ]
                  refine AnyT.takeD (i := 4) (d := some 96) (v := .pointer (some (pad.add e))) rfl rfl (by kernel_rfl) (by kernel_rfl) (by kernel_rfl) (by kernel_rfl) (fun _ _ _ h => h) (Or.inl ⟨by rfl, fun wz _ => by go_simp⟩) F0 ?_
                  simp only [Act.put, List.setIfInBounds_toArray, List.set_cons_zero, List.set_cons_succ]
                  refine AnyT.takeD (i := 5) (d := some 97) (v := .int .u8 zx) rfl rfl (by kernel_rfl) (by kernel_rfl) (by kernel_rfl) (by kernel_rfl) (fun _ _ _ h => h) (Or.inl ⟨by rfl, fun wz hz => by obtain ⟨z3, z4⟩ := hz; go_simp⟩) F0 ?_
                  simp only [Act.put, List.setIfInBounds_toArray, List.set_cons_zero, List.set_cons_succ]
                  refine AnyT.takeD (i := 6) (d := some 98) (v := .int .i64 zx) rfl rfl (by kernel_rfl) (by kernel_rfl) (by kernel_rfl) (by kernel_rfl) (fun _ _ _ h => h) (Or.inl ⟨by rfl, fun wz _ => by go_simp <;> (refine wrapD _ ?_ ?_ <;> omega)⟩) F0 ?_
                  simp only [Act.put, List.setIfInBounds_toArray, List.set_cons_zero, List.set_cons_succ]
                  refine AnyT.branch (rs := [7]) (by kernel_rfl) (by simp) ?_
                  refine all_cons (?_) all_nil
                  obtain ⟨y1, e1⟩ : ∃ q, q = y0.alloc (.cells #[.int .i64 zx] 3) := ⟨_, rfl⟩
                  have T1 := Lib.hid (show DSt w y1 g st A n' c' B m' d' (list2 bs 2 k) (list1 bs (3 + 2 * k) j) by rw [e1]; exact T0.out.under ((Below.refl _ _).alloc (Nat.le_refl _) _))
                  refine AnyT.yield (i := 7) (d := some 99) (v := .slice (some ⟨y0.heap.size, 0, none⟩) 1 1) (w' := y1) rfl rfl rfl (by rw [e1]; go_simp) (fun _ => And.intro T1.out.box.c2 (HCX.out y1 T1.out.bel)) ?_
                  simp only [Act.put, List.setIfInBounds_toArray, List.set_cons_zero, List.set_cons_succ]
                  refine AnyT.branch (rs := [8]) (by kernel_rfl) (by simp) ?_
                  refine all_cons (?_) all_nil
                  refine AnyT.appI (i := 8) (d := some 100) rfl rfl rfl (.tmp 93) (.tmp 99) rfl (g + 2) (.slice B m' d') (list1 bs (3 + 2 * k) j) rfl T1.out.ou zx y0 e1 _ rfl 1 rfl HLL.out (by have := T1.out.box.lt; omega) ?_
                  intro v' y2 AP
                  obtain ⟨B', n2, c2, rfl, X3, B3, S3⟩ := T1.out.moreU AP
                  refine ⟨fun _ => And.intro X3.c2 (HCX.out y2 B3), ?_⟩
                  have X3 := Lib.hid X3
                  have S3 := Lib.hid S3
                  clear AP B3 e1 T1 T0 F0
                  simp only [Act.put, List.setIfInBounds_toArray, List.set_cons_zero, List.set_cons_succ]
                  refine AnyT.takePD (i := 9) (d := some 101) (v := .pointer (some ⟨g + 1, 2, none⟩)) rfl rfl (by kernel_rfl) (by kernel_rfl) (by kernel_rfl) (by kernel_rfl) (fun _ _ _ h => h) (Or.inl ⟨by rfl, fun wz _ => by go_simp⟩) ?_
                  simp only [Act.put, List.setIfInBounds_toArray, List.set_cons_zero, List.set_cons_succ]
                  refine AnyT.branch (rs := [10]) (by kernel_rfl) (by simp) ?_
                  refine all_cons (?_) all_nil
                  have z1 := X3.out.c2
                  have z2 := X3.out.f 2
                  refine AnyT.step (i := 10) rfl (fun KK hK => ?_)
                  go_simp
                  refine hK.out _ _ (fun h => absurd h (by decide)) ?_
                  clear hK KK z1 z2 X3
                  refine AnyT.done_ (by kernel_rfl) ?_ _
                  generalize y2.setCell ⟨g + 1, 2, none⟩ (.slice B' n2 c2) = y3 at *
                  go_wp2_with fail
                  go_roundw
                  case rel => exact ⟨j + 1, e + 1, B', n2, c2, HJM.out, by have := HEQ.out; omega, by go_num, Lib.hid (by rw [list1_more, HVL.out]; exact S3.out)⟩
                  case measure => have := HEQ.out; have := HJM.out; simp [intOf]; omega
                · obtain rfl : j = m := by omega
                  have hji : ¬ (e : Int) < 3 + 2 * (k : Int) + (j : Int) := by omega
                  rw [← HVD.out, ← HCD.out] at S
                  clear HVD HCD he hlt2 hj HLEN hlt hk hki h2i h3i h4i h5i hi2l h1i
                  obtain ⟨P4, Q4, OV4, OU4, -, HB4, -⟩ := S.out
                  obtain ⟨vA', vc', ev, VR, -, hvm, -⟩ := OV4.slice
                  have hvn : n' = (vD bs).length := by injection ev
                  have hVA : A = vA' := by injection ev
                  subst hVA
                  obtain ⟨uA', uc', eu, UR, -, hum, -⟩ := OU4.slice
                  have hun : m' = (chD bs).length := by injection eu
                  have hUA : B = uA' := by injection eu
                  subst hUA
                  have HEN5 := Lib.hid (rvalid15_any st (vD bs) (chD bs) A B n' c' m' d' hvn hun hvm hum wr VR UR)
                  clear ev eu VR UR hvm hum hvn hun S
                  have P4 := Lib.hid P4
                  have Q4 := Lib.hid Q4
                  have OV4 := Lib.hid OV4
                  have OU4 := Lib.hid OU4
                  have HB4 := Lib.hid HB4
                  obtain ⟨p0, p1, p2, -, pl⟩ := P4.out
                  go_wp2_with fail
                  refine HEN5.out.mono ?_
                  rintro e5 w5 ⟨rfl, B5⟩
                  have Q5 := Lib.hid (Q4.out.below B5 Q4.out.lt)
                  have P5 := Lib.hid (P4.out.below B5 P4.out.lt)
                  have HB5 := Lib.hid (HB4.out.trans (B5.mono HB4.out.size))
                  have OV5 := Lib.hid (OV4.out.below B5)
                  have OU5 := Lib.hid (OU4.out.below B5)
                  have PP5 := Lib.hid (Q5.out.put)
                  clear p0 p1 p2 pl Q4 P4 HB4 B5 HEN5 OV4 OU4
                  obtain ⟨q0, q1, q2, qf, ql⟩ := Q5.out
                  have f0 := qf 0
                  have f1 := qf 1
                  have f2 := qf 2
                  clear qf
                  obtain ⟨p0, p1, p2, -, pl⟩ := P5.out
                  rw [← HE.out]
                  by_cases he : decR bs = 0
                  · obtain ⟨o1, o2, o3⟩ := HO.out he
                    have HF := Lib.hid he
                    have HO1 := Lib.hid o1
                    have HO2 := Lib.hid o2
                    have HO3 := Lib.hid o3
                    rw [he]
                    clear he o1 o2 o3 HO
                    go_wp2_with fail
                    refine bodyPost_ret (results_proof rfl _ _ g st 0 A B n' c' m' d' rfl rfl (PP5.out st A n' c' B m' d')) rfl ?_
                    have hgw := HG.out
                    have nv : ∀ q, (Value.slice A n' c').ownBlock = some q → q ≠ g := fun q e => by have := (own_block OV5.out e).1; omega
                    have nu : ∀ q, (Value.slice B m' d').ownBlock = some q → q ≠ g := fun q e => by have := (own_block OU5.out e).1; omega
                    refine ⟨A, n', c', B, m', d', by rw [HF.out, HO1.out], ?_, ?_, ?_⟩
                    · rw [HO2.out]
                      exact ((((OV5.out.base (by omega)).setN (p := ⟨g, 0, none⟩) nv _).setN (p := ⟨g, 1, none⟩) nv _).setN (p := ⟨g, 2, none⟩) nv _)
                    · rw [HO3.out]
                      exact ((((OU5.out.base (by omega)).setN (p := ⟨g, 0, none⟩) nu _).setN (p := ⟨g, 1, none⟩) nu _).setN (p := ⟨g, 2, none⟩) nu _)
                    · exact ((HB5.out.setCell (p := ⟨g, 0, none⟩) (by show w.heap.size ≤ g; omega) _).setCell (p := ⟨g, 1, none⟩) (by show w.heap.size ≤ g; omega) _).setCell (p := ⟨g, 2, none⟩) (by show w.heap.size ≤ g; omega) _
                  · have hne : (decR bs != 0) = true := bne_iff_ne.2 he
                    have HF := Lib.hid he
                    generalize hdr : decR bs = er at *
                    have HRE := Lib.hid hdr
                    clear hdr he
                    go_wp2_with fail
                    refine bodyPost_ret (results_proof rfl _ _ g 0 er none none 0 0 0 0 rfl rfl (PP5.out 0 none 0 0 none 0 0)) rfl ?_
                    have := FZ.out er w5 rfl HF.out (by rw [HG.out]; exact HB5.out)
                    exact this
end Go.Proofs.Ytlagadbkencpbaa

namespace Go.Proofs.Ytlagadbkencpbaa
open Go.RowKit Go.Lib

def DecP (qs : Int) (qV qC : List Int) (D : Int) (w : World) (e : Ending) (w' : World) : Prop :=
  ∃ A n c B m d, e = .returned (.tuple #[qv qs A n c B m d, .int .i64 D]) ∧ Own .i64 3 w' w.heap.size (.slice A n c) qV ∧ Own .i64 3 w' w.heap.size (.slice B m d) qC ∧ Below w.heap.size w w'
def EncP (E : Int) (Y : List Int) (w : World) (e : Ending) (w' : World) : Prop :=
  ∃ A c, e = .returned (.tuple #[.slice A Y.length c, .int .i64 E]) ∧ Own .u8 5 w' w.heap.size (.slice A Y.length c) Y ∧ Below w.heap.size w w'
theorem encP {st : Int} {v ch : List Int} {w w' : World} {e : Ending} (h : EncPost st v ch w e w') : EncP (encE st v ch) (if encE st v ch = 0 then encL st v ch else []) w e w' := by
  obtain ⟨x, rfl, O, B⟩ := h
  obtain ⟨A, c, rfl, -⟩ := O.slice
  exact ⟨A, c, rfl, O, B⟩
theorem decP {bs : List Int} {w w' : World} {e : Ending} (h : DecPost bs w e w') : DecP (stZ bs) (vZ bs) (chZ bs) (decR bs) w e w' := by
  obtain ⟨A, n, c, B, m, d, rfl, O, U, k⟩ := h
  exact ⟨A, n, c, B, m, d, rfl, O, U, k⟩
theorem decode1 (bs : List Int) (hb : BB8 bs) (A : Option Addr) (n c : Nat) (hn : n = bs.length) (hc : n ≤ c ∧ c ≤ maxLen) (W : World) (r : Row .u8 W W.heap.size A bs) :
    Calls Try.prog 11 #[.slice A n c] W (DecP (stZ bs) (vZ bs) (chZ bs) (decR bs) W) := (decode_any bs A n c hn hc hb W r).mono fun e w' h => decP h
theorem rdecode1 (bs : List Int) (hb : BB8 bs) (A : Option Addr) (n c : Nat) (hn : n = bs.length) (hc : n ≤ c ∧ c ≤ maxLen) (W : World) (r : Row .u8 W W.heap.size A bs) :
    Calls Try.prog 24 #[.slice A n c] W (DecP (stZ bs) (vZ bs) (chZ bs) (decR bs) W) := (rdec_any bs A n c hn hc hb W r).mono fun e w' h => decP h
/-- A proof that is written. -/
theorem encode2 (st : Int) (v ch : List Int) : ∃ E Y, Y.length ≤ 300 ∧ BB8 Y ∧
    (E = 0 → ∀ (W : World) (A : Option Addr) (n c : Nat), n = Y.length → n ≤ c ∧ c ≤ maxLen → Row .u8 W W.heap.size A Y → Calls Try.prog 11 #[.slice A n c] W (DecP st v ch 0 W)) ∧
    ∀ (A B : Option Addr) (n c m d : Nat) (W : World), n = v.length → m = ch.length → v.length ≤ maxLen → ch.length ≤ maxLen → Row .i64 W W.heap.size A v → Row .i64 W W.heap.size B ch →
      Calls Try.prog 9 #[qv st A n c B m d] W (EncP E Y W) ∧ Calls Try.prog 21 #[qv st A n c B m d] W (EncP E Y W) := by
  refine ⟨encE st v ch, if encE st v ch = 0 then encL st v ch else [], ?_, ?_, ?_, ?_⟩
  · by_cases h : encE st v ch = 0
    · rw [if_pos h, encL_len]
      have := (encE_zero h).1
      omega
    · rw [if_neg h]; exact Nat.zero_le _
  · by_cases h : encE st v ch = 0
    · rw [if_pos h]; exact bb_encL h
    · rw [if_neg h]; intro x hx; cases hx
  · intro h W A n c hn hc r
    rw [if_pos h] at hn r
    obtain ⟨d0, d1, d2, d3⟩ := dec_enc h
    have := decode1 (encL st v ch) (bb_encL h) A n c hn hc W r
    rw [show stZ (encL st v ch) = st from (if_pos d0).trans d1, show vZ (encL st v ch) = v from (if_pos d0).trans d2, show chZ (encL st v ch) = ch from (if_pos d0).trans d3, d0] at this
    exact this
  · intro A B n c m d W hn hm hvm hcm hv hc
    exact ⟨(encode_any st v ch A B n c m d hn hm hvm hcm W hv hc).mono fun e w' h => encP h, (renc_any st v ch A B n c m d hn hm hvm hcm W hv hc).mono fun e w' h => encP h⟩
/-- Bytes that are read. -/
theorem decode2 (bs : List Int) (hb : BB8 bs) : ∃ qs qV qC D,
    (D = 0 → ∀ (A B : Option Addr) (n c m d : Nat) (W : World), n = qV.length → m = qC.length → qV.length ≤ maxLen → qC.length ≤ maxLen → Row .i64 W W.heap.size A qV → Row .i64 W W.heap.size B qC →
      Calls Try.prog 9 #[qv qs A n c B m d] W (EncP 0 bs W)) ∧
    ∀ (A : Option Addr) (n c : Nat) (W : World), n = bs.length → n ≤ c ∧ c ≤ maxLen → Row .u8 W W.heap.size A bs →
      Calls Try.prog 11 #[.slice A n c] W (DecP qs qV qC D W) ∧ Calls Try.prog 24 #[.slice A n c] W (DecP qs qV qC D W) := by
  refine ⟨stZ bs, vZ bs, chZ bs, decR bs, ?_, fun A n c W hn hc r => ⟨decode1 bs hb A n c hn hc W r, rdecode1 bs hb A n c hn hc W r⟩⟩
  intro h A B n c m d W hn hm hvm hcm hv hc
  rw [show stZ bs = stD bs from if_pos h]
  rw [show vZ bs = vD bs from if_pos h] at hn hvm hv
  rw [show chZ bs = chD bs from if_pos h] at hm hcm hc
  obtain ⟨e0, e1⟩ := enc_dec hb h
  refine (encode_any (stD bs) (vD bs) (chD bs) A B n c m d hn hm hvm hcm W hv hc).mono fun e w' k => ?_
  have := encP k
  rw [e0, if_pos rfl, e1] at this
  exact this
end Go.Proofs.Ytlagadbkencpbaa
