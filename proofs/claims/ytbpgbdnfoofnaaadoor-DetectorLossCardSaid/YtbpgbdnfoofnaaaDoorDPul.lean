/-
  Stage 4: lists of pulses and of intervals in memory; the first error of a list.
-/
import Derived.Test.YtbpgbdnfoofnaaaDoorDLeaf
import Derived.Test.YtbpgbdnfoofnaaaDoorFlat
import Derived.Test.YtbpgbdnfoofnaaaDoorHRows
set_option linter.unusedSimpArgs false
set_option linter.unusedVariables false
namespace Go.Proofs.YtbpgbdnfoofnaaaDoor
open Go.RowKit

def flatP : List Pul → List Int
  | [] => []
  | p :: l => p.1 :: p.2.1 :: p.2.2 :: flatP l
theorem flatP_len (l : List Pul) : (flatP l).length = l.length * 3 := by
  induction l with
  | nil => rfl
  | cons p l ih => unfold flatP; simp only [List.length_cons]; omega
theorem flatP_app (l m : List Pul) : flatP (l ++ m) = flatP l ++ flatP m := by
  induction l with
  | nil => rfl
  | cons p l ih =>
    show p.1 :: p.2.1 :: p.2.2 :: flatP (l ++ m) = _
    rw [ih]; rfl
theorem flatP_at (l : List Pul) (k : Nat) : (flatP l).getD (k * 3) 0 = (l.getD k (0, 0, 0)).1 ∧ (flatP l).getD (k * 3 + 1) 0 = (l.getD k (0, 0, 0)).2.1 ∧ (flatP l).getD (k * 3 + 2) 0 = (l.getD k (0, 0, 0)).2.2 := by
  induction l generalizing k with
  | nil => exact ⟨rfl, rfl, rfl⟩
  | cons p l ih =>
    cases k with
    | zero => exact ⟨rfl, rfl, rfl⟩
    | succ k =>
      have := ih k
      rw [show (k + 1) * 3 = k * 3 + 3 by omega]
      exact this
/-- The slice from A on reads as the pulses l. -/
structure PRow (w : World) (A : Option Addr) (l : List Pul) : Prop where
  row : Row .i64 w w.heap.size A (flatP l)
  len : l.length ≤ maxLen
theorem PRow.below {w w' : World} {A : Option Addr} {l : List Pul} (h : PRow w A l) (b : Below w.heap.size w w') : PRow w' A l := ⟨h.row.below b, h.len⟩
theorem PRow.drewN {w : World} {A : Option Addr} {l : List Pul} (h : PRow w A l) (n : Nat) : PRow (w.drewN n) A l := ⟨h.row, h.len⟩
theorem PRow.nil {w : World} {A : Option Addr} : PRow w A [] := ⟨Row.nil, by decide⟩
/-- The cells of one element. -/
structure Cel (w : World) (ad : Addr) (k : Nat) (p : Pul) : Prop where
  c0 : w.cell? (ad.add (k * 3)) = some (.int .i64 p.1)
  c1 : w.cell? (ad.add (k * 3 + 1)) = some (.int .i64 p.2.1)
  c2 : w.cell? (ad.add (k * 3 + 2)) = some (.int .i64 p.2.2)
  lt : ad.block < w.heap.size
theorem PRow.at_ {w : World} {A : Option Addr} {l : List Pul} (h : PRow w A l) (k : Nat) (hk : k < l.length) : ∃ ad : Addr, A = some ad ∧ Cel w ad k (l.getD k (0, 0, 0)) := by
  have hl := flatP_len l
  obtain ⟨e0, e1, e2⟩ := flatP_at l k
  obtain ⟨ad, rfl, hb, h0⟩ := h.row (k * 3) (by omega)
  obtain ⟨ad1, g1, _, h1⟩ := h.row (k * 3 + 1) (by omega)
  obtain ⟨ad2, g2, _, h2⟩ := h.row (k * 3 + 2) (by omega)
  obtain rfl : ad = ad1 := by injection g1
  obtain rfl : ad = ad2 := by injection g2
  rw [e0] at h0; rw [e1] at h1; rw [e2] at h2
  exact ⟨ad, rfl, h0, h1, h2, hb⟩
theorem Cel.below {w w' : World} {ad : Addr} {k : Nat} {p : Pul} (h : Cel w ad k p) (b : Below w.heap.size w w') : Cel w' ad k p :=
  ⟨(b.cell (by rw [add_block]; exact h.lt)).trans h.c0, (b.cell (by rw [add_block]; exact h.lt)).trans h.c1, (b.cell (by rw [add_block]; exact h.lt)).trans h.c2, Nat.lt_of_lt_of_le h.lt b.size⟩

/-- The cells, spelt as the walks ask for them. -/
theorem Cel.spelt {w : World} {ad : Addr} {k : Nat} {p : Pul} (h : Cel w ad k p) :
    w.cell? (ad.add (k * 3)) = some (.int .i64 p.1) ∧ w.cell? ⟨(ad.add (k * 3)).block, (ad.add (k * 3)).off + 1, none⟩ = some (.int .i64 p.2.1) ∧ w.cell? ⟨(ad.add (k * 3)).block, (ad.add (k * 3)).off + 2, none⟩ = some (.int .i64 p.2.2) := by
  have e : ∀ j, 0 < j → ad.add (k * 3 + j) = ⟨(ad.add (k * 3)).block, (ad.add (k * 3)).off + j, none⟩ := fun j hj => by
    unfold Addr.add
    by_cases g : k * 3 = 0
    · rw [if_neg (by omega), if_pos g, g, Nat.zero_add]
    · rw [if_neg (by omega), if_neg g, Nat.add_assoc]
  exact ⟨h.c0, (by rw [← e 1 (by decide)]; exact h.c1), (by rw [← e 2 (by decide)]; exact h.c2)⟩
theorem Cel.zero {w : World} {ad : Addr} {p : Pul} (h : Cel w ad 0 p) :
    w.cell? ad = some (.int .i64 p.1) ∧ w.cell? ⟨ad.block, ad.off + 1, none⟩ = some (.int .i64 p.2.1) ∧ w.cell? ⟨ad.block, ad.off + 2, none⟩ = some (.int .i64 p.2.2) := by
  have e : ad.add 0 = ad := by unfold Addr.add; rw [if_pos rfl]
  have := h.spelt
  rwa [Nat.zero_mul, e] at this
/-- Block b holds the pulse p. -/
structure Pl (w : World) (b : Nat) (p : Pul) : Prop where
  c0 : w.cell? ⟨b, 0, none⟩ = some (.int .i64 p.1)
  c1 : w.cell? ⟨b, 1, none⟩ = some (.int .i64 p.2.1)
  c2 : w.cell? ⟨b, 2, none⟩ = some (.int .i64 p.2.2)
  lt : b < w.heap.size
theorem Pl.below {w w' : World} {b : Nat} {p : Pul} (h : Pl w b p) (k : Below w.heap.size w w') : Pl w' b p :=
  ⟨(k.cell (p := ⟨b, 0, none⟩) h.lt).trans h.c0, (k.cell (p := ⟨b, 1, none⟩) h.lt).trans h.c1, (k.cell (p := ⟨b, 2, none⟩) h.lt).trans h.c2, Nat.lt_of_lt_of_le h.lt k.size⟩
theorem Pl.new {w : World} {p : Pul} {T : TypeId} (b : Nat) (hb : b = w.heap.size) : Pl (w.alloc (.cells #[.int .i64 p.1, .int .i64 p.2.1, .int .i64 p.2.2] T)) b p := by
  subst hb; exact ⟨by rw [cell_new]; rfl, by rw [cell_new]; rfl, by rw [cell_new]; rfl, by simp⟩
theorem Pl.alloc {w : World} {b : Nat} {p : Pul} (h : Pl w b p) (o : Obj) : Pl (w.alloc o) b p := h.below ((Below.refl _ _).alloc (Nat.le_refl _) _)
theorem Pl.drewN {w : World} {b : Nat} {p : Pul} (h : Pl w b p) (n : Nat) : Pl (w.drewN n) b p := ⟨h.c0, h.c1, h.c2, h.lt⟩
theorem Pl.grown {w w' : World} {b : Nat} {p : Pul} {row : Option Nat} (h : Pl w b p) (g : w.grownBy w' row) (hn : row ≠ some b) : Pl w' b p :=
  ⟨g.cell h.c0 (fun e => hn e.symm), g.cell h.c1 (fun e => hn e.symm), g.cell h.c2 (fun e => hn e.symm), Nat.lt_of_lt_of_le h.lt g.size⟩
theorem Pl.put3 {w : World} {b : Nat} {p : Pul} {u v z : Value} (h0 : w.cell? ⟨b, 0, none⟩ = some u) (h1 : w.cell? ⟨b, 1, none⟩ = some v) (h2 : w.cell? ⟨b, 2, none⟩ = some z) (hl : b < w.heap.size) :
    Pl (((w.setCell ⟨b, 0, none⟩ (.int .i64 p.1)).setCell ⟨b, 1, none⟩ (.int .i64 p.2.1)).setCell ⟨b, 2, none⟩ (.int .i64 p.2.2)) b p := by
  have g1 : (w.setCell ⟨b, 0, none⟩ (.int .i64 p.1)).cell? ⟨b, 1, none⟩ = some v := by rw [World.cell?_setCell_other _ _ _ _ (by simp)]; exact h1
  have g2 : ((w.setCell ⟨b, 0, none⟩ (.int .i64 p.1)).setCell ⟨b, 1, none⟩ (.int .i64 p.2.1)).cell? ⟨b, 2, none⟩ = some z := by rw [World.cell?_setCell_other _ _ _ _ (by simp), World.cell?_setCell_other _ _ _ _ (by simp)]; exact h2
  refine ⟨?_, ?_, World.cell?_setCell_same _ _ _ g2, by rw [World.size_setCell, World.size_setCell, World.size_setCell]; exact hl⟩
  · rw [World.cell?_setCell_other _ _ _ _ (by simp), World.cell?_setCell_other _ _ _ _ (by simp)]; exact World.cell?_setCell_same _ _ _ h0
  · rw [World.cell?_setCell_other _ _ _ _ (by simp)]; exact World.cell?_setCell_same _ _ _ g1
/-- The first error of a list, behind a time. -/
def vw (t : Int) : List Pul → Int
  | [] => 0
  | p :: l => if okP p then (if p.2.1 < t then 12 else vw p.2.1 l) else 1
def validR (l : List Pul) : Int := if 4096 < l.length then 3 else vw 0 l
theorem vw_run (t : Int) (l : List Pul) : vw t l = 0 ↔ run t l := by
  induction l generalizing t with
  | nil => exact ⟨fun _ => trivial, fun _ => rfl⟩
  | cons p l ih =>
    have e1 : vw t (p :: l) = if okP p then (if p.2.1 < t then 12 else vw p.2.1 l) else 1 := rfl
    have e2 : run t (p :: l) ↔ okP p ∧ t ≤ p.2.1 ∧ run p.2.1 l := Iff.rfl
    rw [e1, e2]
    by_cases h : okP p
    · rw [if_pos h]
      by_cases g : p.2.1 < t
      · rw [if_pos g]
        exact ⟨fun h => (by cases h), fun h => (by omega)⟩
      · rw [if_neg g, ih]
        exact ⟨fun k => ⟨h, by omega, k⟩, fun k => k.2.2⟩
    · rw [if_neg h]
      exact ⟨fun h => (by cases h), fun k => absurd k.1 h⟩
theorem drop_at {l : List Pul} {k : Nat} (hk : k < l.length) : l.drop k = l.getD k (0, 0, 0) :: l.drop (k + 1) := by
  rw [List.drop_eq_getElem_cons hk, List.getD_eq_getElem?_getD, List.getElem?_eq_getElem hk]; rfl

set_option maxHeartbeats 800000 in
theorem valid_any (l : List Pul) (A : Option Addr) (c : Nat) (w : World) (h : PRow w A l) :
    Calls Tryd.prog 12 #[.slice A l.length c] w fun e w' => e = .returned (.int .i64 (validR l)) ∧ Below w.heap.size w w' := by
  have hl : l.length ≤ 9223372036854775807 := h.len
  by_cases hbig : 4096 < l.length
  · have HP := Lib.hid (show validR l = 3 by unfold validR; rw [if_pos hbig])
    have hb : (4096 : Int) < (l.length : Int) := by omega
    clear h
    go_enter Tryd.func12, Tryd.ntmps12
    go_wp2_with fail
    go_ret
    exact ⟨ret_int HP.out.symm, Below.refl _ _⟩
  · have H := Lib.hid h
    have HP := Lib.hid (show validR l = vw 0 l by unfold validR; rw [if_neg hbig])
    obtain ⟨L, hL⟩ : ∃ n, n = l.length := ⟨_, rfl⟩
    have HL := Lib.hid hL
    rw [← hL] at hl hbig ⊢
    clear h hL
    go_enter Tryd.func12, Tryd.ntmps12
    go_wp2_with fail
    go_loopw [3, 11] (fun b i wr => ∃ k : Nat, k ≤ L ∧ i = .int .i64 k ∧ ∃ t : Int, b = .int .i64 t ∧ Hid (vw 0 l = vw t (l.drop k)) ∧ Hid (Below w.heap.size w wr)) (fun _ i _ => L - (intOf i).toNat)
    case atStart => exact ⟨0, by omega, rfl, 0, rfl, Lib.hid rfl, Lib.hid (Below.refl _ _)⟩
    case round =>
      obtain ⟨k, hk, rfl, t, rfl, V, B⟩ := hrel
      by_cases hlt : k < L
      · obtain ⟨ad, rfl, C⟩ := (H.out.below B.out).at_ k (by rw [← HL.out]; exact hlt)
        have hd := drop_at (l := l) (k := k) (by rw [← HL.out]; exact hlt)
        obtain ⟨⟨d, tt, s⟩, hp⟩ : ∃ p, p = l.getD k (0, 0, 0) := ⟨_, rfl⟩
        rw [← hp] at C hd
        have hv := V.out
        rw [hd] at hv
        have HV := Lib.hid hv
        obtain ⟨c0, c1, c2⟩ := C.spelt
        have HC := Lib.hid C
        clear C
        clear hp hd hv V
        go_wp2_with fail
        refine (inRange_any d tt s _).mono ?_
        rintro e w' ⟨rfl, B1⟩
        clear c0 c1 c2
        have P1 := (Pl.new (w := wr) (p := (d, tt, s)) (T := 28) wr.heap.size rfl).below B1
        have BB := Lib.hid (B.out.trans ((below1 B1).mono B.out.size))
        obtain ⟨p0, p1, p2, plt⟩ := P1
        clear B1
        by_cases ho : okP (d, tt, s)
        · have e1 : decide (okP (d, tt, s)) = true := decide_eq_true ho
          have hv := HV.out
          have e2 : vw t ((d, tt, s) :: l.drop (k + 1)) = if tt < t then 12 else vw tt (l.drop (k + 1)) := by
            show (if okP (d, tt, s) then _ else _) = _
            rw [if_pos ho]
          rw [e2] at hv
          clear e2
          rw [e1]
          clear e1
          by_cases hlt2 : tt < t
          · rw [if_pos hlt2] at hv
            have HV2 := Lib.hid hv
            clear hv ho
            go_wp2_with fail
            go_ret
            exact ⟨ret_int (HP.out.trans HV2.out).symm, BB.out⟩
          · rw [if_neg hlt2] at hv
            have HV2 := Lib.hid hv
            clear hv ho
            go_wp2_with fail
            go_roundw
            case rel => exact ⟨k + 1, by omega, by go_num, tt, rfl, HV2, BB⟩
            case measure => simp [intOf]; omega
        · have e1 : decide (okP (d, tt, s)) = false := decide_eq_false ho
          have hv := HV.out
          have e2 : vw t ((d, tt, s) :: l.drop (k + 1)) = 1 := by
            show (if okP (d, tt, s) then _ else _) = _
            rw [if_neg ho]
          rw [e2] at hv
          have HV2 := Lib.hid hv
          rw [e1]
          clear e1 e2 hv ho
          go_wp2_with fail
          go_ret
          exact ⟨ret_int (HP.out.trans HV2.out).symm, BB.out⟩
      · obtain rfl : k = L := by omega
        have hv := V.out
        rw [HL.out, List.drop_length] at hv
        have HV := Lib.hid hv
        clear hv hlt hk
        go_wp2_with fail
        go_ret
        exact ⟨ret_int (HP.out.trans HV.out).symm, B.out⟩
end Go.Proofs.YtbpgbdnfoofnaaaDoor
