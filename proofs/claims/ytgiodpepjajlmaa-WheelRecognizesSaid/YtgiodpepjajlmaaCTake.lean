/-
  Stage 6: the reader's take.
-/
import Derived.Test.YtgiodpepjajlmaaCChk
import Derived.Test.YtgiodpepjajlmaaMkDigits
import Derived.Test.YtgiodpepjajlmaaLoc
set_option linter.unusedSimpArgs false
set_option linter.unusedVariables false
namespace Go.Proofs.Ytgiodpepjajlmaa
open Go.RowKit

/-- Block p is a reader of the bytes bs (a slice from A with capacity c), at place n; what it has noted. -/
structure Rd (w : World) (p : Nat) (A : Option Addr) (c : Nat) (bs : List Int) (n : Nat) (s g : Bool) : Prop where
  c0 : w.cell? ⟨p, 0, none⟩ = some (.slice A bs.length c)
  c1 : w.cell? ⟨p, 1, none⟩ = some (.int .i64 n)
  c2 : w.cell? ⟨p, 2, none⟩ = some (.bool s)
  c3 : w.cell? ⟨p, 3, none⟩ = some (.bool g)
  f1 : w.frozen? ⟨p, 1, none⟩ = false
  f2 : w.frozen? ⟨p, 2, none⟩ = false
  f3 : w.frozen? ⟨p, 3, none⟩ = false
  lt : p < w.heap.size
  row : Row .u8 w p A bs
  bd : BB bs
  len : bs.length ≤ 140737488355328
  cap : bs.length ≤ c ∧ c ≤ maxLen
  le : n ≤ bs.length
theorem Rd.below {w w' : World} {p : Nat} {A : Option Addr} {c n : Nat} {bs : List Int} {s g : Bool} (h : Rd w p A c bs n s g) (k : Below w.heap.size w w') : Rd w' p A c bs n s g :=
  ⟨(k.cell (p := ⟨p, 0, none⟩) h.lt).trans h.c0, (k.cell (p := ⟨p, 1, none⟩) h.lt).trans h.c1, (k.cell (p := ⟨p, 2, none⟩) h.lt).trans h.c2, (k.cell (p := ⟨p, 3, none⟩) h.lt).trans h.c3,
   (k.frozen (p := ⟨p, 1, none⟩) h.lt).trans h.f1, (k.frozen (p := ⟨p, 2, none⟩) h.lt).trans h.f2, (k.frozen (p := ⟨p, 3, none⟩) h.lt).trans h.f3, Nat.lt_of_lt_of_le h.lt k.size,
   h.row.keep (fun q hq => k.cell (Nat.lt_trans hq h.lt)) (Nat.le_refl _), h.bd, h.len, h.cap, h.le⟩
theorem Rd.alloc {w : World} {p : Nat} {A : Option Addr} {c n : Nat} {bs : List Int} {s g : Bool} (h : Rd w p A c bs n s g) (o : Obj) : Rd (w.alloc o) p A c bs n s g := h.below ((Below.refl _ _).alloc (Nat.le_refl _) _)
theorem Rd.drewN {w : World} {p : Nat} {A : Option Addr} {c n : Nat} {bs : List Int} {s g : Bool} (h : Rd w p A c bs n s g) (k : Nat) : Rd (w.drewN k) p A c bs n s g := h.below ⟨rfl, rfl, rfl, Nat.le_refl _, fun _ _ => rfl⟩
theorem ne_off {p i j : Nat} (h : i ≠ j) : (⟨p, i, none⟩ : Addr) ≠ ⟨p, j, none⟩ := fun e => h (congrArg Addr.off e)
theorem Rd.setN {w : World} {p : Nat} {A : Option Addr} {c n : Nat} {bs : List Int} {s g : Bool} (h : Rd w p A c bs n s g) (m : Nat) (hm : m ≤ bs.length) : Rd (w.setCell ⟨p, 1, none⟩ (.int .i64 m)) p A c bs m s g :=
  ⟨by rw [World.cell?_setCell_other _ _ _ _ (ne_off (by decide))]; exact h.c0, World.cell?_setCell_same _ _ _ h.c1, by rw [World.cell?_setCell_other _ _ _ _ (ne_off (by decide))]; exact h.c2, by rw [World.cell?_setCell_other _ _ _ _ (ne_off (by decide))]; exact h.c3,
   by rw [World.frozen?_setCell]; exact h.f1, by rw [World.frozen?_setCell]; exact h.f2, by rw [World.frozen?_setCell]; exact h.f3, by rw [World.size_setCell]; exact h.lt,
   h.row.keep (fun q hq => World.cell?_setCell_other _ _ _ _ (fun e => by have := congrArg Addr.block e; simp at this; omega)) (Nat.le_refl _), h.bd, h.len, h.cap, hm⟩
theorem Rd.setS {w : World} {p : Nat} {A : Option Addr} {c n : Nat} {bs : List Int} {s g : Bool} (h : Rd w p A c bs n s g) (t : Bool) : Rd (w.setCell ⟨p, 2, none⟩ (.bool t)) p A c bs n t g :=
  ⟨by rw [World.cell?_setCell_other _ _ _ _ (ne_off (by decide))]; exact h.c0, by rw [World.cell?_setCell_other _ _ _ _ (ne_off (by decide))]; exact h.c1, World.cell?_setCell_same _ _ _ h.c2, by rw [World.cell?_setCell_other _ _ _ _ (ne_off (by decide))]; exact h.c3,
   by rw [World.frozen?_setCell]; exact h.f1, by rw [World.frozen?_setCell]; exact h.f2, by rw [World.frozen?_setCell]; exact h.f3, by rw [World.size_setCell]; exact h.lt,
   h.row.keep (fun q hq => World.cell?_setCell_other _ _ _ _ (fun e => by have := congrArg Addr.block e; simp at this; omega)) (Nat.le_refl _), h.bd, h.len, h.cap, h.le⟩
theorem Rd.setG {w : World} {p : Nat} {A : Option Addr} {c n : Nat} {bs : List Int} {s g : Bool} (h : Rd w p A c bs n s g) (t : Bool) : Rd (w.setCell ⟨p, 3, none⟩ (.bool t)) p A c bs n s t :=
  ⟨by rw [World.cell?_setCell_other _ _ _ _ (ne_off (by decide))]; exact h.c0, by rw [World.cell?_setCell_other _ _ _ _ (ne_off (by decide))]; exact h.c1, by rw [World.cell?_setCell_other _ _ _ _ (ne_off (by decide))]; exact h.c2, World.cell?_setCell_same _ _ _ h.c3,
   by rw [World.frozen?_setCell]; exact h.f1, by rw [World.frozen?_setCell]; exact h.f2, by rw [World.frozen?_setCell]; exact h.f3, by rw [World.size_setCell]; exact h.lt,
   h.row.keep (fun q hq => World.cell?_setCell_other _ _ _ _ (fun e => by have := congrArg Addr.block e; simp at this; omega)) (Nat.le_refl _), h.bd, h.len, h.cap, h.le⟩
/-- A list that reads in a block other than p, below B. -/
def RowNe (w : World) (p B : Nat) (A : Option Addr) (zs : List Int) : Prop := ∀ j, j < zs.length → ∃ ad : Addr, A = some ad ∧ ad.block ≠ p ∧ ad.block < B ∧ w.cell? (ad.add j) = some (.int .u8 (zs.getD j 0))
theorem RowNe.moves {w w' : World} {p B : Nat} {A : Option Addr} {zs : List Int} (h : RowNe w p B A zs) (k : Moves p w w') (hB : B ≤ w.heap.size) : RowNe w' p B A zs := fun j hj => by
  obtain ⟨ad, e, h1, h2, h3⟩ := h j hj
  exact ⟨ad, e, h1, h2, (k.cell (by rw [add_block]; omega) (by rw [add_block]; exact h1)).trans h3⟩
theorem RowNe.more {w : World} {p B B' : Nat} {A : Option Addr} {zs : List Int} (h : RowNe w p B A zs) (hB : B ≤ B') : RowNe w p B' A zs := fun j hj => by
  obtain ⟨ad, e, h1, h2, h3⟩ := h j hj
  exact ⟨ad, e, h1, by omega, h3⟩
theorem RowNe.grown {w w' : World} {p B : Nat} {A : Option Addr} {zs : List Int} {row : Option Nat} (h : RowNe w p B A zs) (k : w.grownBy w' row) (hr : ∀ g, row = some g → B ≤ g) : RowNe w' p B A zs := fun j hj => by
  obtain ⟨ad, e, h1, h2, h3⟩ := h j hj
  exact ⟨ad, e, h1, h2, k.cell h3 (by rw [add_block]; intro e; have := hr _ e.symm; omega)⟩
theorem RowNe.nil {w : World} {p B : Nat} {A : Option Addr} : RowNe w p B A [] := fun j hj => absurd hj (by simp)
theorem Rd.stays {w w' : World} {p : Nat} {A : Option Addr} {c n : Nat} {bs : List Int} {s g : Bool} (h : Rd w p A c bs n s g) (k : Below (p + 1) w w') : Rd w' p A c bs n s g :=
  ⟨(k.cell (p := ⟨p, 0, none⟩) (Nat.lt_succ_self p)).trans h.c0, (k.cell (p := ⟨p, 1, none⟩) (Nat.lt_succ_self p)).trans h.c1, (k.cell (p := ⟨p, 2, none⟩) (Nat.lt_succ_self p)).trans h.c2, (k.cell (p := ⟨p, 3, none⟩) (Nat.lt_succ_self p)).trans h.c3,
   (k.frozen (p := ⟨p, 1, none⟩) (Nat.lt_succ_self p)).trans h.f1, (k.frozen (p := ⟨p, 2, none⟩) (Nat.lt_succ_self p)).trans h.f2, (k.frozen (p := ⟨p, 3, none⟩) (Nat.lt_succ_self p)).trans h.f3, Nat.lt_of_lt_of_le h.lt k.size,
   h.row.keep (fun q hq => k.cell (Nat.lt_trans hq (Nat.lt_succ_self p))) (Nat.le_refl _), h.bd, h.len, h.cap, h.le⟩
theorem Rd.grown {w w' : World} {p : Nat} {A : Option Addr} {c n : Nat} {bs : List Int} {s g : Bool} {row : Option Nat} (h : Rd w p A c bs n s g) (k : w.grownBy w' row) (hr : ∀ g, row = some g → p < g) : Rd w' p A c bs n s g :=
  h.stays ((Below.refl (p + 1) w).grown k h.lt (fun g e => hr g e))
/-- What take hands back, and where it leaves the reader. -/
def tkV (bs : List Int) (n k : Nat) : List Int := if bs.length < n + k then List.replicate k 0 else (bs.drop n).take k
def tkN (bs : List Int) (n k : Nat) : Nat := if bs.length < n + k then bs.length else n + k
def tkS (bs : List Int) (n k : Nat) (s : Bool) : Bool := if bs.length < n + k then true else s
theorem tkV_len {bs : List Int} {n k : Nat} : (tkV bs n k).length = k := by
  unfold tkV
  split
  · simp
  · rw [List.length_take, List.length_drop]; omega
def TakePost (p : Nat) (A : Option Addr) (c : Nat) (bs : List Int) (n k : Nat) (s g : Bool) (w : World) (e : Ending) (w' : World) : Prop :=
  ∃ A' c', e = .returned (.slice A' k c') ∧ RowNe w' p w'.heap.size A' (tkV bs n k) ∧ Rd w' p A c bs (tkN bs n k) (tkS bs n k s) g ∧ Moves p w w'
theorem Row.cut {w : World} {p : Nat} {ad : Addr} {bs : List Int} (h : Row .u8 w p (some ad) bs) (hp : p < w.heap.size) (n k : Nat) (hk : n + k ≤ bs.length) : RowNe w p w.heap.size (some (ad.add n)) ((bs.drop n).take k) := fun j hj => by
  rw [List.length_take, List.length_drop] at hj
  obtain ⟨ad', e, hb, hv⟩ := h (n + j) (by omega)
  injection e with e
  subst e
  refine ⟨_, rfl, by rw [add_block]; omega, by rw [add_block]; omega, ?_⟩
  rw [add_add, hv, getD_take _ _ _ (by omega), List.getD_eq_getElem?_getD, List.getD_eq_getElem?_getD, List.getElem?_drop]
end Go.Proofs.Ytgiodpepjajlmaa
