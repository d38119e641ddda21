/-
  Stage 6: the bytes of a list: the program.
-/
import Derived.Test.YtgiodpepjajlmaaCApp
import Derived.Test.YtgiodpepjajlmaaCList
set_option linter.unusedSimpArgs false
set_option linter.unusedVariables false
namespace Go.Proofs.Ytgiodpepjajlmaa
open Go.RowKit

def bytesL : List Wag → List Int
  | [] => []
  | x :: l => bytesW x ++ bytesL l
theorem bytesL_app (l m : List Wag) : bytesL (l ++ m) = bytesL l ++ bytesL m := by
  induction l with
  | nil => rfl
  | cons x l ih =>
    show bytesW x ++ bytesL (l ++ m) = _
    rw [ih, ← List.append_assoc]; rfl
theorem bytesL_snoc (l : List Wag) (x : Wag) : bytesL (l ++ [x]) = bytesL l ++ bytesW x := by
  rw [bytesL_app]; show _ ++ (bytesW x ++ []) = _; rw [List.append_nil]
/-- The bytes ahead of the check sum; the encoding. -/
def encB (l : List Wag) : List Int := (l.length : Int) :: bytesL l
def enc (l : List Wag) : List Int := encB l ++ pair (chk (encB l))
def encR (l : List Wag) : List Int × Int := if validL l = 0 then (enc l, 0) else ([], validL l)
def EncPost (l : List Wag) (w : World) (e : Ending) (w' : World) : Prop :=
  ∃ v, e = .returned (.tuple #[v, .int .i64 (encR l).2]) ∧ Own .u8 5 w' w.heap.size v (encR l).1 ∧ Below w.heap.size w w'
theorem EncPost.mk' {l : List Wag} {w w' : World} {v : Value} {b : List Int} {er : Int} (h : encR l = (b, er)) (h2 : Own .u8 5 w' w.heap.size v b) (h3 : Below w.heap.size w w') : EncPost l w (.returned (.tuple #[v, .int .i64 er])) w' := by
  refine ⟨v, ?_, ?_, h3⟩
  · rw [h]
  · rw [h]; exact h2
theorem encR_bad {l : List Wag} {x : Int} (h : validL l = x) (hx : x ≠ 0) : encR l = ([], x) := by unfold encR; rw [if_neg (by rw [h]; exact hx), h]
theorem encR_ok {l : List Wag} (h : validL l = 0) : encR l = (enc l, 0) := by unfold encR; rw [if_pos h]
theorem nums_bd (s : ByteArray) : BB (nums s) := fun z hz => by
  unfold nums at hz
  obtain ⟨b, _, rfl⟩ := List.mem_map.1 hz
  have := b.toNat_lt
  omega
theorem dst_le {x : Wag} (h : validW x = 0) : 1 ≤ x.dst.size ∧ x.dst.size ≤ 12 := by
  have p3 := (validW_parts h).2.2.2
  unfold nameS at p3
  simp at p3
  omega
theorem bytesW_len (x : Wag) : (bytesW x).length = 15 + x.dst.size := by
  unfold bytesW pair
  simp only [List.length_append, dgs2_len, nums_length, List.length_cons, List.length_nil]
theorem pair_bd {n : Int} (h0 : 0 ≤ n) (h1 : n < 65536) : BB (pair n) := fun z hz => by
  simp only [pair, List.mem_cons, List.not_mem_nil, or_false] at hz
  rcases hz with rfl | rfl <;> omega
theorem dgB_bd {s : ByteArray} (h : s.data.toList.all dig = true) (hs : s.size = 12) {j : Nat} (hj : j < 6) : 0 ≤ dgB s j ∧ dgB s j ≤ 153 := by
  have h1 := dig_all h (2 * j) (by omega)
  have h2 := dig_all h (2 * j + 1) (by omega)
  unfold dgB
  rw [nums_getD s _ (by omega), nums_getD s _ (by omega)]
  omega
theorem dgs2_bd {s : ByteArray} (h : s.data.toList.all dig = true) (hs : s.size = 12) (n : Nat) (hn : n ≤ 6) : BB (dgs2 s n) := by
  induction n with
  | zero => exact BB.nil
  | succ n ih =>
    refine BB.app (ih (by omega)) fun z hz => ?_
    rw [List.mem_singleton] at hz
    subst hz
    have := dgB_bd h hs (j := n) (by omega)
    omega
theorem wag_more {x : Wag} (h : validW x = 0) : (0 ≤ x.len ∧ x.len ≤ 400) ∧ (2 ≤ x.axl ∧ x.axl ≤ 6) ∧ (0 ≤ x.mas ∧ x.mas ≤ 2000) ∧ (0 ≤ x.brk ∧ x.brk ≤ 2000) ∧ (0 ≤ x.gds ∧ x.gds ≤ 9) := by
  obtain ⟨_, h1, h2, _⟩ := validW_parts h
  obtain ⟨r1, r2, r3, r4, r5, r6, r7, r8⟩ := h2
  have hk : 0 ≤ leastK (knd (x.num.data.toList.getD 4 48)) := by unfold leastK; split <;> omega
  refine ⟨⟨by omega, by omega⟩, ?_, ⟨by omega, by omega⟩, ⟨by omega, by omega⟩, ⟨by omega, by omega⟩⟩
  rw [h1]
  unfold axlK
  split
  · omega
  · split <;> omega
theorem gdsB_bd {x : Wag} (h : validW x = 0) : 0 ≤ gdsB x ∧ gdsB x ≤ 25 := by
  have := (wag_more h).2.2.2.2
  unfold gdsB
  split <;> omega
theorem bytesW_bd {x : Wag} (h : validW x = 0) : BB (bytesW x) := by
  obtain ⟨m1, m2, m3, m4, m5⟩ := wag_more h
  have hg := gdsB_bd h
  have hd := dst_le h
  obtain ⟨hs, hdig, _⟩ := validR_size (validW_parts h).1
  unfold bytesW
  refine BB.app (BB.app (BB.app (BB.app (BB.app (BB.app (dgs2_bd hdig hs 6 (by omega)) (pair_bd (by omega) (by omega))) ?_) (pair_bd (by omega) (by omega))) (pair_bd (by omega) (by omega))) ?_) (nums_bd _)
  · intro z hz
    rw [List.mem_singleton] at hz
    omega
  · intro z hz
    simp only [List.mem_cons, List.not_mem_nil, or_false] at hz
    rcases hz with rfl | rfl <;> omega
theorem bytesL_bd {l : List Wag} (h : ∀ x ∈ l, validW x = 0) : BB (bytesL l) ∧ (bytesL l).length ≤ 27 * l.length := by
  induction l with
  | nil => exact ⟨BB.nil, Nat.zero_le _⟩
  | cons x l ih =>
    obtain ⟨i1, i2⟩ := ih fun y hy => h y (by simp [hy])
    have hx := h x (by simp)
    refine ⟨BB.app (bytesW_bd hx) i1, ?_⟩
    show (bytesW x ++ bytesL l).length ≤ _
    have := (dst_le hx).2
    rw [List.length_append, bytesW_len, List.length_cons]
    omega
theorem encB_bd {l : List Wag} (h : validL l = 0) : BB (encB l) ∧ (encB l).length ≤ 3000 := by
  obtain ⟨h1, h2, _⟩ := validL_zero.1 h
  obtain ⟨b1, b2⟩ := bytesL_bd h2
  refine ⟨fun z hz => ?_, ?_⟩
  · rcases List.mem_cons.1 hz with rfl | hz
    · omega
    · exact b1 z hz
  · show (bytesL l).length + 1 ≤ _
    omega
theorem enc_bd {l : List Wag} (h : validL l = 0) : BB (enc l) ∧ (enc l).length ≤ 3002 := by
  obtain ⟨b1, b2⟩ := encB_bd h
  have := chk_bd' (encB l)
  refine ⟨BB.app b1 (pair_bd this.1 (by omega)), ?_⟩
  unfold enc
  rw [List.length_append]
  show _ + 2 ≤ _
  omega
/-- A list that has just been laid. -/
theorem Own.built {k : IntKind} {e : TypeId} (w : World) (ys : List Int) (base n : Nat) (hn : n = ys.length) (hb : base ≤ w.heap.size) (hm : ys.length ≤ 1000000000) : Own k e (w.alloc (.cells (ys.map (Value.int k)).toArray e)) base (.slice (some ⟨w.heap.size, 0, none⟩) n n) ys := by
  subst hn
  refine ⟨by simp, Or.inr ⟨w.heap.size, ys.length, _, rfl, hb, heap_alloc_new w _, Nat.le_refl _, by unfold maxLen; omega, by simp, ?_⟩⟩
  rw [Nat.mul_one, List.toList_toArray, List.take_of_length_le (by simp)]
end Go.Proofs.Ytgiodpepjajlmaa
