/-
  Stage 6: the reader's single, pair, goods, number.
-/
import Derived.Test.YtgiodpepjajlmaaCTake
import Derived.Test.YtgiodpepjajlmaaCApp
set_option linter.unusedSimpArgs false
set_option linter.unusedVariables false
namespace Go.Proofs.Ytgiodpepjajlmaa
open Go.RowKit

theorem conv_row (w : World) {A : Option Addr} {c : Nat} {zs : List Int} (h : ∀ j, j < zs.length → ∃ ad : Addr, A = some ad ∧ w.cell? (ad.add j) = some (.int .u8 (zs.getD j 0))) (n : Nat) (hn : n = zs.length) :
    (convert 70 9 (.slice A n c)).run Try.prog w = .ok (.string (strOfNums zs)) w := by
  subst hn
  cases A with
  | none =>
    have : zs = [] := by
      cases zs with
      | nil => rfl
      | cons z l => obtain ⟨ad, e, _⟩ := h 0 (by simp); cases e
    subst this
    exact run_convert_bytes_nil w 70 5 Try.underlying70 Try.underlying5 0 c 9 Try.underlying9
  | some ad =>
    have hl : (loadCells ad zs.length).run Try.prog w = .ok (zs.map (Value.int .u8)).toArray w := by
      have := run_loadCells_list (P := Try.prog) w ad (zs.map (Value.int .u8)) (fun j v hj => by
        have hjl : j < zs.length := by
          have := (List.getElem?_eq_some_iff.1 hj).1
          simpa using this
        obtain ⟨ad', e, hc⟩ := h j hjl
        injection e with e
        subst e
        rw [hc]
        simp [List.getElem?_eq_getElem hjl] at hj
        subst hj
        simp [List.getD, List.getElem?_eq_getElem hjl])
      simpa using this
    rw [run_convert_bytes_string w 70 9 5 _ zs.length c Try.underlying70 Try.underlying5 Try.underlying9, run_bytesToString w _ zs.length c zs hl, foldl_push_bytes]
    simp [strOfNums, ByteArray.empty, ByteArray.emptyWithCapacity]
    rfl
theorem add_zero_ (a : Addr) : a.add 0 = a := by unfold Addr.add; rw [if_pos rfl]
theorem add_succ_ (a : Addr) (n : Nat) : a.add (n + 1) = ⟨a.block, a.off + (n + 1), none⟩ := by unfold Addr.add; rw [if_neg (by omega)]
theorem tkV_bd {bs : List Int} (h : BB bs) (n k : Nat) : BB (tkV bs n k) := by
  unfold tkV
  split
  · intro z hz
    have := List.eq_of_mem_replicate hz
    omega
  · exact (h.drop n).take k
theorem tkN_le {bs : List Int} {n : Nat} (h : n ≤ bs.length) (k : Nat) : tkN bs n k ≤ bs.length := by
  unfold tkN; split <;> omega
/-- A byte, two bytes as a number. -/
def sgV (bs : List Int) (n : Nat) : Int := (tkV bs n 1).getD 0 0
def prV (bs : List Int) (n : Nat) : Int := (tkV bs n 2).getD 0 0 * 256 + (tkV bs n 2).getD 1 0
theorem sgV_bd {bs : List Int} (h : BB bs) (n : Nat) : 0 ≤ sgV bs n ∧ sgV bs n ≤ 255 := (tkV_bd h n 1).at_ 0
/-- A number is read, and the reader goes on. -/
def NumPost (p : Nat) (A : Option Addr) (c : Nat) (bs : List Int) (v : Int) (n' : Nat) (s' g' : Bool) (w : World) (e : Ending) (w' : World) : Prop :=
  e = .returned (.int .i64 v) ∧ Rd w' p A c bs n' s' g' ∧ Moves p w w'
theorem or_pair {a b : Int} (a0 : 0 ≤ a) (a1 : a ≤ 255) (b0 : 0 ≤ b) (b1 : b ≤ 255) : bits BinOp.or IntKind.i64 (a * 256) b = a * 256 + b := by
  obtain ⟨x, rfl⟩ := Int.eq_ofNat_of_zero_le a0
  obtain ⟨y, rfl⟩ := Int.eq_ofNat_of_zero_le b0
  have hn : (x * 256) ||| y = x * 256 + y := by
    have := Nat.shiftLeft_add_eq_or_of_lt (i := 8) (b := y) (by omega) x
    rw [Nat.shiftLeft_eq] at this
    exact this.symm
  have e1 : ((x : Int) * 256) = ((x * 256 : Nat) : Int) := by omega
  rw [e1]
  show IntKind.i64.wrap ((BitVec.ofInt 64 ((x * 256 : Nat) : Int) ||| BitVec.ofInt 64 (y : Int)).toNat : Int) = _
  have f1 : (BitVec.ofInt 64 ((x * 256 : Nat) : Int)).toNat = x * 256 := by rw [BitVec.toNat_ofInt]; omega
  have f2 : (BitVec.ofInt 64 (y : Int)).toNat = y := by rw [BitVec.toNat_ofInt]; omega
  rw [BitVec.toNat_or, f1, f2, hn, IntKind.wrap_i64]
  omega
theorem prV_bd {bs : List Int} (h : BB bs) (n : Nat) : 0 ≤ prV bs n ∧ prV bs n ≤ 65535 := by
  have h0 := (tkV_bd h n 2).at_ 0
  have h1 := (tkV_bd h n 2).at_ 1
  unfold prV
  omega
/-- Goods, and the mark. -/
def gdV (v : Int) : Int := if 16 ≤ v then v - 16 else v
def GdPost (p : Nat) (A : Option Addr) (c : Nat) (bs : List Int) (v : Int) (n' : Nat) (s' g : Bool) (w : World) (e : Ending) (w' : World) : Prop :=
  e = .returned (.tuple #[.int .i64 (gdV v), .bool (decide (16 ≤ v))]) ∧ Rd w' p A c bs n' s' (g || decide (9 < gdV v)) ∧ Moves p w w'
theorem GdPost.mk' {p : Nat} {A : Option Addr} {c : Nat} {bs : List Int} {v u : Int} {n' : Nat} {s' g b t : Bool} {w w' : World} (h1 : gdV v = u) (h2 : decide (16 ≤ v) = b) (h3 : t = (g || decide (9 < u))) (R : Rd w' p A c bs n' s' t) (M : Moves p w w') :
    GdPost p A c bs v n' s' g w (.returned (.tuple #[.int .i64 u, .bool b])) w' := by
  unfold GdPost
  rw [h1, h2, ← h3]
  exact ⟨rfl, R, M⟩
end Go.Proofs.Ytgiodpepjajlmaa
