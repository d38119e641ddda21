/-
  Stage 6: the reader's single, pair, goods, number.
-/
import Derived.Test.YtjgeolfjhfdbmaaCTake
import Derived.Test.YtjgeolfjhfdbmaaCApp
set_option linter.unusedSimpArgs false
set_option linter.unusedVariables false
namespace Go.Proofs.Ytjgeolfjhfdbmaa
open Go.RowKit

theorem conv_row (w : World) {A : Option Addr} {c : Nat} {zs : List Int} (h : ∀ j, j < zs.length → ∃ ad : Addr, A = some ad ∧ w.cell? (ad.add j) = some (.int .u8 (zs.getD j 0))) (n : Nat) (hn : n = zs.length) :
    (convert 24 9 (.slice A n c)).run Try.prog w = .ok (.string (strOfNums zs)) w := by
  subst hn
  cases A with
  | none =>
    have : zs = [] := by
      cases zs with
      | nil => rfl
      | cons z l => obtain ⟨ad, e, _⟩ := h 0 (by simp); cases e
    subst this
    exact run_convert_bytes_nil w 24 5 Try.underlying24 Try.underlying5 0 c 9 Try.underlying9
  | some ad =>
    have hl : (loadCells ad zs.length).run Try.prog w = .ok (zs.map (Value.int .u8)).toArray w := by
      have := run_loadCells_list (P := Try.prog) w ad (zs.map (Value.int .u8)) (fun j v hj => by
        have hjl : j < zs.length := by
          have := (List.getElem?_eq_some_iff.1 hj).1
          simpa using this
        obtain ⟨ad', e, hc⟩ := h j hjl
        injection e with e
        subst e
        rw [hc]
        simp [List.getElem?_eq_getElem hjl] at hj
        subst hj
        simp [List.getD, List.getElem?_eq_getElem hjl])
      simpa using this
    rw [run_convert_bytes_string w 24 9 5 _ zs.length c Try.underlying24 Try.underlying5 Try.underlying9, run_bytesToString w _ zs.length c zs hl, foldl_push_bytes]
    simp [strOfNums, ByteArray.empty, ByteArray.emptyWithCapacity]
    rfl
theorem add_zero_ (a : Addr) : a.add 0 = a := by unfold Addr.add; rw [if_pos rfl]
theorem add_succ_ (a : Addr) (n : Nat) : a.add (n + 1) = ⟨a.block, a.off + (n + 1), none⟩ := by unfold Addr.add; rw [if_neg (by omega)]
theorem tkV_bd {bs : List Int} (h : BB bs) (n k : Nat) : BB (tkV bs n k) := by
  unfold tkV
  split
  · intro z hz
    have := List.eq_of_mem_replicate hz
    omega
  · exact (h.drop n).take k
theorem tkN_le {bs : List Int} {n : Nat} (h : n ≤ bs.length) (k : Nat) : tkN bs n k ≤ bs.length := by
  unfold tkN; split <;> omega
/-- A byte, two bytes as a number. -/
def sgV (bs : List Int) (n : Nat) : Int := (tkV bs n 1).getD 0 0
def prV (bs : List Int) (n : Nat) : Int := (tkV bs n 2).getD 0 0 * 256 + (tkV bs n 2).getD 1 0
theorem sgV_bd {bs : List Int} (h : BB bs) (n : Nat) : 0 ≤ sgV bs n ∧ sgV bs n ≤ 255 := (tkV_bd h n 1).at_ 0
/-- A number is read, and the reader goes on. -/
def NumPost (p : Nat) (A : Option Addr) (c : Nat) (bs : List Int) (v : Int) (n' : Nat) (s' g' : Bool) (w : World) (e : Ending) (w' : World) : Prop :=
  e = .returned (.int .i64 v) ∧ Rd w' p A c bs n' s' g' ∧ Moves p w w'
set_option maxHeartbeats 800000 in
theorem single_any (p : Nat) (A : Option Addr) (c : Nat) (bs : List Int) (n : Nat) (s g : Bool) (w : World) (h : Rd w p A c bs n s g) :
    Calls Try.prog 48 #[.pointer (some ⟨p, 0, none⟩)] w (NumPost p A c bs (sgV bs n) (tkN bs n 1) (tkS bs n 1 s) g w) := by
  have hb := sgV_bd h.bd n
  obtain ⟨b1, b2⟩ := hb
  have H := Lib.hid h
  clear h
  go_enter Try.func48, Try.ntmps48
  go_wp2_with fail
  refine (take_any p A c bs n 1 s g w H.out (by decide)).mono ?_
  rintro e w1 ⟨A', c', rfl, R, H1, M⟩
  obtain ⟨ad, rfl, _, _, hc⟩ := R 0 (by rw [tkV_len]; decide)
  rw [add_zero_] at hc
  have HV := Lib.hid (show sgV bs n = (tkV bs n 1).getD 0 0 from rfl)
  rw [← HV.out] at hc
  clear R
  go_wp2_with fail
  go_ret
  exact ⟨rfl, H1, M⟩
theorem or_pair {a b : Int} (a0 : 0 ≤ a) (a1 : a ≤ 255) (b0 : 0 ≤ b) (b1 : b ≤ 255) : bits BinOp.or IntKind.i64 (a * 256) b = a * 256 + b := by
  obtain ⟨x, rfl⟩ := Int.eq_ofNat_of_zero_le a0
  obtain ⟨y, rfl⟩ := Int.eq_ofNat_of_zero_le b0
  have hn : (x * 256) ||| y = x * 256 + y := by
    have := Nat.shiftLeft_add_eq_or_of_lt (i := 8) (b := y) (by omega) x
    rw [Nat.shiftLeft_eq] at this
    exact this.symm
  have e1 : ((x : Int) * 256) = ((x * 256 : Nat) : Int) := by omega
  rw [e1]
  show IntKind.i64.wrap ((BitVec.ofInt 64 ((x * 256 : Nat) : Int) ||| BitVec.ofInt 64 (y : Int)).toNat : Int) = _
  have f1 : (BitVec.ofInt 64 ((x * 256 : Nat) : Int)).toNat = x * 256 := by rw [BitVec.toNat_ofInt]; omega
  have f2 : (BitVec.ofInt 64 (y : Int)).toNat = y := by rw [BitVec.toNat_ofInt]; omega
  rw [BitVec.toNat_or, f1, f2, hn, IntKind.wrap_i64]
  omega
theorem prV_bd {bs : List Int} (h : BB bs) (n : Nat) : 0 ≤ prV bs n ∧ prV bs n ≤ 65535 := by
  have h0 := (tkV_bd h n 2).at_ 0
  have h1 := (tkV_bd h n 2).at_ 1
  unfold prV
  omega
set_option maxHeartbeats 800000 in
theorem pair_any (p : Nat) (A : Option Addr) (c : Nat) (bs : List Int) (n : Nat) (s g : Bool) (w : World) (h : Rd w p A c bs n s g) :
    Calls Try.prog 41 #[.pointer (some ⟨p, 0, none⟩)] w (NumPost p A c bs (prV bs n) (tkN bs n 2) (tkS bs n 2 s) g w) := by
  obtain ⟨a0, a1⟩ := (tkV_bd h.bd n 2).at_ 0
  obtain ⟨b0, b1⟩ := (tkV_bd h.bd n 2).at_ 1
  have H := Lib.hid h
  clear h
  go_enter Try.func41, Try.ntmps41
  go_wp2_with fail
  refine (take_any p A c bs n 2 s g w H.out (by decide)).mono ?_
  rintro e w1 ⟨A', c', rfl, R, H1, M⟩
  obtain ⟨ad, rfl, _, _, hc⟩ := R 0 (by rw [tkV_len]; decide)
  obtain ⟨ad', e', _, _, hd⟩ := R 1 (by rw [tkV_len]; decide)
  injection e' with e'
  subst e'
  rw [add_zero_] at hc
  rw [add_succ_ _ 0] at hd
  have hor := or_pair a0 a1 b0 b1
  have HV := Lib.hid (show prV bs n = (tkV bs n 2).getD 0 0 * 256 + (tkV bs n 2).getD 1 0 from rfl)
  generalize (tkV bs n 2).getD 0 0 = x at *
  generalize (tkV bs n 2).getD 1 0 = y at *
  have wx : IntKind.i64.wrap x = x := IntWalk.i64_in _ (by omega)
  have wy : IntKind.i64.wrap y = y := IntWalk.i64_in _ (by omega)
  have hw : IntKind.i64.wrap (x * 256) = x * 256 := IntWalk.i64_in _ (by omega)
  clear R
  go_wp2_with fail
  go_quiet (fail)
  go_wp2_with fail
  go_ret
  exact ⟨ret_int HV.out.symm, H1.drewN _, M.drewN⟩

/-- Goods, and the mark. -/
def gdV (v : Int) : Int := if 16 ≤ v then v - 16 else v
def GdPost (p : Nat) (A : Option Addr) (c : Nat) (bs : List Int) (v : Int) (n' : Nat) (s' g : Bool) (w : World) (e : Ending) (w' : World) : Prop :=
  e = .returned (.tuple #[.int .i64 (gdV v), .bool (decide (16 ≤ v))]) ∧ Rd w' p A c bs n' s' (g || decide (9 < gdV v)) ∧ Moves p w w'
theorem GdPost.mk' {p : Nat} {A : Option Addr} {c : Nat} {bs : List Int} {v u : Int} {n' : Nat} {s' g b t : Bool} {w w' : World} (h1 : gdV v = u) (h2 : decide (16 ≤ v) = b) (h3 : t = (g || decide (9 < u))) (R : Rd w' p A c bs n' s' t) (M : Moves p w w') :
    GdPost p A c bs v n' s' g w (.returned (.tuple #[.int .i64 u, .bool b])) w' := by
  unfold GdPost
  rw [h1, h2, ← h3]
  exact ⟨rfl, R, M⟩
set_option maxHeartbeats 800000 in
theorem goods_any (p : Nat) (A : Option Addr) (c : Nat) (bs : List Int) (n : Nat) (s g : Bool) (w : World) (h : Rd w p A c bs n s g) :
    Calls Try.prog 56 #[.pointer (some ⟨p, 0, none⟩)] w (GdPost p A c bs (sgV bs n) (tkN bs n 1) (tkS bs n 1 s) g w) := by
  obtain ⟨b1, b2⟩ := sgV_bd h.bd n
  have H := Lib.hid h
  clear h
  go_enter Try.func56, Try.ntmps56
  go_wp2_with fail
  refine (single_any p A c bs n s g w H.out).mono ?_
  rintro e w1 ⟨rfl, H1, M⟩
  have HM := Lib.hid M
  have HR := Lib.hid H1
  clear M
  generalize sgV bs n = v at *
  generalize tkN bs n 1 = n1 at *
  generalize tkS bs n 1 s = s1 at *
  obtain ⟨c0, c1, c2, c3, f1, f2, f3, lt, _, _, _, _, _⟩ := H1
  by_cases hv : 16 ≤ v
  · have HV := Lib.hid (show gdV v = v - 16 by unfold gdV; rw [if_pos hv])
    have HD := Lib.hid (show decide (16 ≤ v) = true from decide_eq_true hv)
    cases g with
    | true =>
      go_wp2_with fail
      go_ret2
      exact GdPost.mk' HV.out (by first | rfl | exact HD.out) (by simp) (HR.out.setG true) (Moves.setCell (m := p) HM.out (Or.inl rfl) _)
    | false =>
      by_cases h9 : 9 < v - 16
      · have H9 := Lib.hid (decide_eq_true h9)
        go_wp2_with fail
        go_ret2
        exact GdPost.mk' HV.out (by first | rfl | exact HD.out) (by first | rfl | (rw [H9.out]; rfl)) (HR.out.setG _) (Moves.setCell (m := p) HM.out (Or.inl rfl) _)
      · have H9 := Lib.hid (decide_eq_false h9)
        go_wp2_with fail
        go_ret2
        exact GdPost.mk' HV.out (by first | rfl | exact HD.out) (by first | rfl | (rw [H9.out]; rfl)) (HR.out.setG _) (Moves.setCell (m := p) HM.out (Or.inl rfl) _)
  · have HV := Lib.hid (show gdV v = v by unfold gdV; rw [if_neg hv])
    have HD := Lib.hid (show decide (16 ≤ v) = false from decide_eq_false hv)
    cases g with
    | true =>
      go_wp2_with fail
      go_ret2
      exact GdPost.mk' HV.out (by first | rfl | exact HD.out) (by simp) (HR.out.setG true) (Moves.setCell (m := p) HM.out (Or.inl rfl) _)
    | false =>
      by_cases h9 : 9 < v
      · have H9 := Lib.hid (decide_eq_true h9)
        go_wp2_with fail
        go_ret2
        exact GdPost.mk' HV.out (by first | rfl | exact HD.out) (by first | rfl | (rw [H9.out]; rfl)) (HR.out.setG _) (Moves.setCell (m := p) HM.out (Or.inl rfl) _)
      · have H9 := Lib.hid (decide_eq_false h9)
        go_wp2_with fail
        go_ret2
        exact GdPost.mk' HV.out (by first | rfl | exact HD.out) (by first | rfl | (rw [H9.out]; rfl)) (HR.out.setG _) (Moves.setCell (m := p) HM.out (Or.inl rfl) _)
end Go.Proofs.Ytjgeolfjhfdbmaa
