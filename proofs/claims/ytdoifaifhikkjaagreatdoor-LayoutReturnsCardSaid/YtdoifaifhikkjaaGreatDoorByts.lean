/-
  Blocks of bytes that a call owns: what a walk carries of them from world to world; from them to strings of digits.
-/
import Derived.Test.YtdoifaifhikkjaaGreatDoorLoc
import Derived.Laws.MakeOwn
import Derived.Laws.BytesArg
set_option linter.unusedSimpArgs false
set_option linter.unusedVariables false
namespace Go.Proofs.YtdoifaifhikkjaaGreatDoor
open Go.RowKit

/-- A digit's byte. -/
def dig (c : UInt8) : Bool := decide (48 ≤ c.toNat ∧ c.toNat ≤ 57)
/-- A string of n digits. -/
def dgs (s : ByteArray) (n : Nat) : Bool := decide (s.size = n) && s.data.toList.all dig

/-- Block b holds the bytes xs, and may be written. -/
structure Byts (w : World) (b : Nat) (xs : List Int) : Prop where
  cs : ∀ j, j < xs.length → w.cell? ⟨b, j, none⟩ = some (.int .u8 (xs.getD j 0))
  fs : ∀ j, j < xs.length → w.frozen? ⟨b, j, none⟩ = false
  lt : b < w.heap.size
theorem Byts.below {w w' : World} {b : Nat} {xs : List Int} (h : Byts w b xs) (k : Below w.heap.size w w') : Byts w' b xs :=
  ⟨fun j hj => (k.cell (p := ⟨b, j, none⟩) h.lt).trans (h.cs j hj), fun j hj => (k.frozen (p := ⟨b, j, none⟩) h.lt).trans (h.fs j hj), Nat.lt_of_lt_of_le h.lt k.size⟩
theorem Byts.moves {w w' : World} {m b : Nat} {xs : List Int} (h : Byts w b xs) (k : Moves m w w') (hm : b ≠ m) : Byts w' b xs :=
  ⟨fun j hj => (k.cell (p := ⟨b, j, none⟩) h.lt hm).trans (h.cs j hj), fun j hj => (k.frozen (p := ⟨b, j, none⟩) h.lt hm).trans (h.fs j hj), Nat.lt_of_lt_of_le h.lt k.size⟩
theorem Byts.alloc {w : World} {b : Nat} {xs : List Int} (h : Byts w b xs) (o : Obj) : Byts (w.alloc o) b xs := h.below ((Below.refl _ _).alloc (Nat.le_refl _) _)
theorem Byts.drewN {w : World} {b n : Nat} {xs : List Int} (h : Byts w b xs) : Byts (w.drewN n) b xs := h.below ⟨rfl, rfl, rfl, Nat.le_refl _, fun _ _ => rfl⟩
theorem Byts.drew {w : World} {b : Nat} {xs : List Int} (h : Byts w b xs) : Byts w.drew b xs := h.below ⟨rfl, rfl, rfl, Nat.le_refl _, fun _ _ => rfl⟩
theorem getD_set (xs : List Int) (i j : Nat) (v : Int) (hi : i < xs.length) : (xs.set i v).getD j 0 = if j = i then v else xs.getD j 0 := by
  rw [List.getD_eq_getElem?_getD, List.getElem?_set]
  by_cases e : i = j
  · subst e; rw [if_pos rfl, if_pos hi, if_pos rfl]; rfl
  · rw [if_neg e, if_neg (Ne.symm e), List.getD_eq_getElem?_getD]
theorem Byts.store {w : World} {b : Nat} {xs : List Int} (h : Byts w b xs) (i : Nat) (hi : i < xs.length) (v : Int) : Byts (w.setCell ⟨b, i, none⟩ (.int .u8 v)) b (xs.set i v) := by
  refine ⟨fun j hj => ?_, fun j hj => ?_, by rw [World.size_setCell]; exact h.lt⟩
  · rw [List.length_set] at hj
    rw [getD_set xs i j v hi]
    by_cases e : j = i
    · subst e; rw [if_pos rfl]; exact World.cell?_setCell_same _ _ _ (h.cs j hj)
    · rw [if_neg e, World.cell?_setCell_other _ _ _ _ (fun k => e (by have := congrArg Addr.off k; exact this.symm))]; exact h.cs j hj
  · rw [List.length_set] at hj
    rw [World.frozen?_setCell]; exact h.fs j hj
theorem getD_rep (n j : Nat) : (List.replicate n (0 : Int)).getD j 0 = 0 := by
  rw [List.getD_eq_getElem?_getD, List.getElem?_replicate]; split <;> rfl
theorem Byts.made {w : World} {n : Nat} {T : TypeId} (b : Nat) (hb : b = w.heap.size) : Byts (w.alloc (.cells (madeCells #[.int .u8 0] n) T)) b (List.replicate n 0) := by
  subst hb
  have e : (w.alloc (.cells (madeCells #[.int .u8 0] n) T)).heap[w.heap.size]? = some (.cells (madeCells #[.int .u8 0] n) T) := by
    show (w.heap.push _)[w.heap.size]? = _
    rw [Array.getElem?_push, if_pos rfl]
  refine ⟨fun j hj => ?_, fun j hj => by unfold World.frozen?; rw [e]; rfl, by simp⟩
  rw [List.length_replicate] at hj
  rw [cell_new, getD_rep]
  simp [madeCells, hj]
  rw [Nat.mod_one]; rfl

/-- The string of such bytes. -/
theorem Byts.str {P : Program} {w : World} {b cap : Nat} {xs : List Int} (h : Byts w b xs) (src e dst : TypeId) (hs : P.underlying src = some (.slice e)) (he : P.underlying e = some (.int .u8)) (hd : P.underlying dst = some .string) :
    (convert src dst (.slice (some ⟨b, 0, none⟩) xs.length cap)).run P w = .ok (.string (strOfNums xs)) w :=
  run_convert_bytes_arg w src e hs he b 0 xs.length cap xs rfl (fun i hi => by rw [Nat.zero_add]; exact h.cs i hi) dst hd

theorem dgs_strOfNums {xs : List Int} (h : ∀ j, j < xs.length → 48 ≤ xs.getD j 0 ∧ xs.getD j 0 ≤ 57) : dgs (strOfNums xs) xs.length = true := by
  unfold dgs
  rw [strOfNums_size, strOfNums_data, List.all_map]
  simp only [decide_true, Bool.true_and, List.all_eq_true]
  intro x hx
  obtain ⟨j, hj, rfl⟩ := List.mem_iff_getElem.1 hx
  have g := h j hj
  rw [List.getD_eq_getElem?_getD, List.getElem?_eq_getElem hj, Option.getD_some] at g
  show dig (UInt8.ofNat xs[j].toNat) = true
  unfold dig
  refine decide_eq_true ?_
  have e : (UInt8.ofNat xs[j].toNat).toNat = xs[j].toNat := by rw [UInt8.toNat_ofNat']; omega
  omega

end Go.Proofs.YtdoifaifhikkjaaGreatDoor
