/-
  Stage 4: lists of intervals in memory; the maker's comparisons of pulses and of intervals.
-/
import Derived.Test.YtbpgbdnfoofnaaaDoorDPul
set_option linter.unusedSimpArgs false
set_option linter.unusedVariables false
namespace Go.Proofs.YtbpgbdnfoofnaaaDoor
open Go.RowKit

abbrev Ivl := Int × Int
def flatI : List Ivl → List Int
  | [] => []
  | p :: l => p.1 :: p.2 :: flatI l
theorem flatI_len (l : List Ivl) : (flatI l).length = l.length * 2 := by
  induction l with
  | nil => rfl
  | cons p l ih => unfold flatI; simp only [List.length_cons]; omega
theorem flatI_app (l m : List Ivl) : flatI (l ++ m) = flatI l ++ flatI m := by
  induction l with
  | nil => rfl
  | cons p l ih =>
    show p.1 :: p.2 :: flatI (l ++ m) = _
    rw [ih]; rfl
theorem flatI_at (l : List Ivl) (k : Nat) : (flatI l).getD (k * 2) 0 = (l.getD k (0, 0)).1 ∧ (flatI l).getD (k * 2 + 1) 0 = (l.getD k (0, 0)).2 := by
  induction l generalizing k with
  | nil => exact ⟨rfl, rfl⟩
  | cons p l ih =>
    cases k with
    | zero => exact ⟨rfl, rfl⟩
    | succ k =>
      have := ih k
      rw [show (k + 1) * 2 = k * 2 + 2 by omega]
      exact this
/-- The slice from A on reads as the intervals l. -/
structure IvRow (w : World) (A : Option Addr) (l : List Ivl) : Prop where
  row : Row .i64 w w.heap.size A (flatI l)
  len : l.length ≤ maxLen
theorem IvRow.below {w w' : World} {A : Option Addr} {l : List Ivl} (h : IvRow w A l) (b : Below w.heap.size w w') : IvRow w' A l := ⟨h.row.below b, h.len⟩
theorem IvRow.drewN {w : World} {A : Option Addr} {l : List Ivl} (h : IvRow w A l) (n : Nat) : IvRow (w.drewN n) A l := ⟨h.row, h.len⟩
theorem IvRow.nil {w : World} {A : Option Addr} : IvRow w A [] := ⟨Row.nil, by decide⟩
structure Cei (w : World) (ad : Addr) (k : Nat) (p : Ivl) : Prop where
  c0 : w.cell? (ad.add (k * 2)) = some (.int .i64 p.1)
  c1 : w.cell? (ad.add (k * 2 + 1)) = some (.int .i64 p.2)
  lt : ad.block < w.heap.size
theorem IvRow.at_ {w : World} {A : Option Addr} {l : List Ivl} (h : IvRow w A l) (k : Nat) (hk : k < l.length) : ∃ ad : Addr, A = some ad ∧ Cei w ad k (l.getD k (0, 0)) := by
  have hl := flatI_len l
  obtain ⟨e0, e1⟩ := flatI_at l k
  obtain ⟨ad, rfl, hb, h0⟩ := h.row (k * 2) (by omega)
  obtain ⟨ad1, g1, _, h1⟩ := h.row (k * 2 + 1) (by omega)
  obtain rfl : ad = ad1 := by injection g1
  rw [e0] at h0; rw [e1] at h1
  exact ⟨ad, rfl, h0, h1, hb⟩
theorem Cei.spelt {w : World} {ad : Addr} {k : Nat} {p : Ivl} (h : Cei w ad k p) :
    w.cell? (ad.add (k * 2)) = some (.int .i64 p.1) ∧ w.cell? ⟨(ad.add (k * 2)).block, (ad.add (k * 2)).off + 1, none⟩ = some (.int .i64 p.2) := by
  have e : ∀ j, 0 < j → ad.add (k * 2 + j) = ⟨(ad.add (k * 2)).block, (ad.add (k * 2)).off + j, none⟩ := fun j hj => by
    unfold Addr.add
    by_cases g : k * 2 = 0
    · rw [if_neg (by omega), if_pos g, g, Nat.zero_add]
    · rw [if_neg (by omega), if_neg g, Nat.add_assoc]
  exact ⟨h.c0, (by rw [← e 1 (by decide)]; exact h.c1)⟩
theorem Cei.drewN {w : World} {ad : Addr} {k : Nat} {p : Ivl} (h : Cei w ad k p) (n : Nat) : Cei (w.drewN n) ad k p := ⟨h.c0, h.c1, h.lt⟩
theorem Cel.drewN {w : World} {ad : Addr} {k : Nat} {p : Pul} (h : Cel w ad k p) (n : Nat) : Cel (w.drewN n) ad k p := ⟨h.c0, h.c1, h.c2, h.lt⟩

theorem psame_any (l : List Pul) (A A' : Option Addr) (c c' : Nat) (w : World) (h : PRow w A l) (h' : PRow w A' l) :
    Calls Tryd.prog 15 #[.slice A l.length c, .slice A' l.length c'] w fun e w' => e = .returned (.bool true) ∧ ∃ n, w' = w.drewN n := by
  have hl : l.length ≤ 9223372036854775807 := h.len
  obtain ⟨L, hL⟩ : ∃ n, n = l.length := ⟨_, rfl⟩
  have H := Lib.hid h
  have H' := Lib.hid h'
  have HL := Lib.hid hL
  rw [← hL] at hl ⊢
  clear h h' hL
  go_enter Tryd.func15, Tryd.ntmps15
  go_wp2_with fail
  go_loopw [5] (fun i wr => (∃ n, wr = w.drewN n) ∧ ∃ k : Nat, k ≤ L ∧ i = .int .i64 k) (fun i _ => L - (intOf i).toNat)
  case atStart => exact ⟨⟨0, rfl⟩, 0, by omega, rfl⟩
  case round =>
    obtain ⟨⟨n, hw⟩, k, hk, rfl⟩ := hrel
    have HW := Lib.hid (show ∃ n, wr = w.drewN n from ⟨n, hw⟩)
    by_cases hlt : k < L
    · obtain ⟨a, rfl, C⟩ := H.out.at_ k (by rw [← HL.out]; exact hlt)
      obtain ⟨a', rfl, C'⟩ := H'.out.at_ k (by rw [← HL.out]; exact hlt)
      obtain ⟨⟨d, t, s⟩, hp⟩ : ∃ p, p = l.getD k (0, 0, 0) := ⟨_, rfl⟩
      rw [← hp] at C C'
      have D1 := C.drewN n
      have D2 := C'.drewN n
      rw [← hw] at D1 D2
      obtain ⟨c0, c1, c2⟩ := D1.spelt
      obtain ⟨g0, g1, g2⟩ := D2.spelt
      simp only at c0 c1 c2 g0 g1 g2
      clear C C' D1 D2 hp hw
      go_upto_region 6 with fail
      go_quiet (fail)
      clear c0 c1 c2 g0 g1 g2
      go_wp2_with fail
      go_roundw
      case rel => exact ⟨by obtain ⟨n, rfl⟩ := HW.out; exact ⟨n + nq, by rw [World.drewN_drewN]⟩, k + 1, by omega, by go_num⟩
      case measure => simp [intOf]; omega
    · clear hw
      go_wp2_with fail
      go_ret
      exact ⟨rfl, HW.out⟩
theorem isame_any (l : List Ivl) (A A' : Option Addr) (c c' : Nat) (w : World) (h : IvRow w A l) (h' : IvRow w A' l) :
    Calls Tryd.prog 25 #[.slice A l.length c, .slice A' l.length c'] w fun e w' => e = .returned (.bool true) ∧ ∃ n, w' = w.drewN n := by
  have hl : l.length ≤ 9223372036854775807 := h.len
  obtain ⟨L, hL⟩ : ∃ n, n = l.length := ⟨_, rfl⟩
  have H := Lib.hid h
  have H' := Lib.hid h'
  have HL := Lib.hid hL
  rw [← hL] at hl ⊢
  clear h h' hL
  go_enter Tryd.func25, Tryd.ntmps25
  go_wp2_with fail
  go_loopw [5] (fun i wr => (∃ n, wr = w.drewN n) ∧ ∃ k : Nat, k ≤ L ∧ i = .int .i64 k) (fun i _ => L - (intOf i).toNat)
  case atStart => exact ⟨⟨0, rfl⟩, 0, by omega, rfl⟩
  case round =>
    obtain ⟨⟨n, hw⟩, k, hk, rfl⟩ := hrel
    have HW := Lib.hid (show ∃ n, wr = w.drewN n from ⟨n, hw⟩)
    by_cases hlt : k < L
    · obtain ⟨a, rfl, C⟩ := H.out.at_ k (by rw [← HL.out]; exact hlt)
      obtain ⟨a', rfl, C'⟩ := H'.out.at_ k (by rw [← HL.out]; exact hlt)
      obtain ⟨⟨x, y⟩, hp⟩ : ∃ p, p = l.getD k (0, 0) := ⟨_, rfl⟩
      rw [← hp] at C C'
      have D1 := C.drewN n
      have D2 := C'.drewN n
      rw [← hw] at D1 D2
      obtain ⟨c0, c1⟩ := D1.spelt
      obtain ⟨g0, g1⟩ := D2.spelt
      simp only at c0 c1 g0 g1
      clear C C' D1 D2 hp hw
      go_upto_region 6 with fail
      go_quiet (fail)
      clear c0 c1 g0 g1
      go_wp2_with fail
      go_roundw
      case rel => exact ⟨by obtain ⟨n, rfl⟩ := HW.out; exact ⟨n + nq, by rw [World.drewN_drewN]⟩, k + 1, by omega, by go_num⟩
      case measure => simp [intOf]; omega
    · clear hw
      go_wp2_with fail
      go_ret
      exact ⟨rfl, HW.out⟩
end Go.Proofs.YtbpgbdnfoofnaaaDoor
