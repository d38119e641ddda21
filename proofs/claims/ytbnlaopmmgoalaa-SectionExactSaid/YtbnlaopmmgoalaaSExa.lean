/-
  Stage 5: exact: the program and the reference, compared; slices of triples that came in.
-/
import Derived.Test.YtbnlaopmmgoalaaSSane
import Derived.Deep.SlicePairs
import Derived.Deep.Strs
set_option linter.unusedSimpArgs false
set_option linter.unusedVariables false
namespace Go.Proofs.Ytbnlaopmmgoalaa
open Go.RowKit

/-- A slice of structs of three integers, as the reader reads it. -/
theorem open_triples {H : Type} {enc : TypeId × Value → H} {P : Program} {w : World} {base : Nat} {spare : Nat → Bool} {held : Bool} {t e : TypeId} {f0 f1 f2 : Field} {fuel : Nat} {A : Option Addr} {len cap : Nat} {x : DataW H × List MemPlace}
    (ht : P.underlying t = some (.slice e)) (he : P.underlying e = some (.struct #[f0, f1, f2]))
    (ce : P.cellsOf e = 3) (o0 : f0.offset = 0) (o1 : f1.offset = 1) (o2 : f2.offset = 2) (u0 : P.underlying f0.type = some (.int .i64)) (u1 : P.underlying f1.type = some (.int .i64)) (u2 : P.underlying f2.type = some (.int .i64))
    (c0 : P.cellsOf f0.type = 1) (c1 : P.cellsOf f1.type = 1) (c2 : P.cellsOf f2.type = 1)
    (h : DataW.trod enc P w base spare held fuel t [.slice A len cap] = some x) : ∃ l : List Pul, len = l.length ∧ PRow w A l ∧ l.length ≤ cap ∧ cap ≤ maxLen := by
  rcases Deep.open_slice ht h with ⟨h0, _⟩ | ⟨a, len', cap', m, n, D, Pl, h0, hb, hl, hm, hmm, _, hx⟩
  · injection h0 with h0
    injection h0 with e1 e2 e3
    subst e1; subst e2; subst e3
    exact ⟨[], rfl, PRow.nil, Nat.le_refl _, by decide⟩
  · injection h0 with h0
    injection h0 with e1 e2 e3
    subst e1; subst e2; subst e3
    have hlm : len ≤ m := by rw [hmm]; split <;> omega
    have each : ∀ i, i < len → ∃ p : Pul, w.cell? (a.add (i * 3)) = some (.int .i64 p.1) ∧ w.cell? (a.add (i * 3 + 1)) = some (.int .i64 p.2.1) ∧ w.cell? (a.add (i * 3 + 2)) = some (.int .i64 p.2.2) := by
      intro i hi
      obtain ⟨cs', g1, g2⟩ := hx i (by omega)
      rw [ce] at g1
      obtain ⟨_, hlen, hcell⟩ := World.cells?_some g1
      obtain ⟨y0, y1, y2, n', _, _, t0, t1, t2⟩ := Deep.trod_struct3 he g2
      match cs', hlen with
      | [v0, v1, v2], _ =>
        simp [o0, o1, o2, c0, c1, c2] at t0 t1 t2
        obtain ⟨a0, e0, _, _⟩ := DataW.trod_int u0 t0
        obtain ⟨a1, e1, _, _⟩ := DataW.trod_int u1 t1
        obtain ⟨a2, e2, _, _⟩ := DataW.trod_int u2 t2
        simp at e0 e1 e2
        subst e0; subst e1; subst e2
        have k0 := hcell 0 (by omega)
        have k1 := hcell 1 (by omega)
        have k2 := hcell 2 (by omega)
        rw [Deep.add_add] at k0 k1 k2
        exact ⟨(a0, a1, a2), by simpa using k0, by simpa using k1, by simpa using k2⟩
    obtain ⟨f, hf⟩ := Deep.choose_lt each
    refine ⟨(List.range len).map f, by simp, ⟨?_, by simp; omega⟩, by simpa using hl, hm⟩
    intro j hj
    rw [flatP_len] at hj
    simp only [List.length_map, List.length_range] at hj
    have hi : j / 3 < len := by omega
    have hg : ((List.range len).map f).getD (j / 3) (0, 0, 0) = f (j / 3) := by
      rw [List.getD_eq_getElem?_getD, List.getElem?_map, List.getElem?_range hi]; rfl
    obtain ⟨k0, k1, k2⟩ := hf (j / 3) hi
    obtain ⟨e0, e1, e2⟩ := flatP_at ((List.range len).map f) (j / 3)
    rw [hg] at e0 e1 e2
    have hblk : a.block < w.heap.size := by have := lt_of_cell k0; rwa [add_block] at this
    refine ⟨a, rfl, hblk, ?_⟩
    rcases (by omega : j = j / 3 * 3 ∨ j = j / 3 * 3 + 1 ∨ j = j / 3 * 3 + 2) with e | e | e
    · rw [e, k0, e0]
    · rw [e, k1, e1]
    · rw [e, k2, e2]

set_option maxRecDepth 100000 in
set_option maxHeartbeats 1600000 in
theorem exa_any (l p : List Pul) (A A2 : Option Addr) (c c2 : Nat) (s r : Int) (w : World) (h : PRow w A l) (h2 : PRow w A2 p) :
    Calls Try.prog 18 #[.slice A l.length c, .slice A2 p.length c2, .int .i64 s, .int .i64 r] w fun e w' => e = .returned (.bool true) ∧ Below w.heap.size w w' := by
  have hl : l.length ≤ 9223372036854775807 := h.len
  have hp : p.length ≤ 9223372036854775807 := h2.len
  have H := Lib.hid h
  have H2 := Lib.hid h2
  clear h h2
  obtain ⟨⟨n1, e1⟩, h1⟩ : ∃ t, t = countR l p s r := ⟨_, rfl⟩
  obtain ⟨⟨n2, e2⟩, h2⟩ : ∃ t, t = stateR l p s r := ⟨_, rfl⟩
  obtain ⟨⟨n3, e3⟩, h3⟩ : ∃ t, t = balR l p := ⟨_, rfl⟩
  obtain ⟨⟨ds, e4⟩, h4⟩ : ∃ t, t = thrR l := ⟨_, rfl⟩
  have C1 := Lib.hid (fun w (a : PRow w A l) (b : PRow w A2 p) => by have := pcount_any l p A A2 c c2 s r w a b; rw [← h1] at this; exact this)
  have C2 := Lib.hid (fun w (a : PRow w A l) (b : PRow w A2 p) => by have := rcount_any l p A A2 c c2 s r w a b; rw [← h1] at this; exact this)
  have C3 := Lib.hid (fun w (a : PRow w A l) (b : PRow w A2 p) => by have := pstate_any l p A A2 c c2 s r w a b; rw [← h2] at this; exact this)
  have C4 := Lib.hid (fun w (a : PRow w A l) (b : PRow w A2 p) => by have := rstate_any l p A A2 c c2 s r w a b; rw [← h2] at this; exact this)
  have C5 := Lib.hid (fun w (a : PRow w A l) => by have := pthr_any l A c w a; unfold ThrPost at this; rw [← h4] at this; exact this)
  have C6 := Lib.hid (fun w (a : PRow w A l) => by have := rthr_any l A c w a; unfold ThrPost at this; rw [← h4] at this; exact this)
  have C7 := Lib.hid (fun w (a : PRow w A l) (b : PRow w A2 p) => by have := pbal_any l p A A2 c c2 w a b; rw [← h3] at this; exact this)
  have C8 := Lib.hid (fun w (a : PRow w A l) (b : PRow w A2 p) => by have := rbal_any l p A A2 c c2 w a b; rw [← h3] at this; exact this)
  have C9 := Lib.hid (fun w (a : PRow w A l) => bvalid_any l A c w a)
  have C10 := Lib.hid (fun w (a : PRow w A l) => rbvalid_any l A c w a)
  obtain ⟨L, hL⟩ : ∃ n, n = l.length := ⟨_, rfl⟩
  obtain ⟨P, hP⟩ : ∃ n, n = p.length := ⟨_, rfl⟩
  obtain ⟨eb, hb⟩ : ∃ e, e = bordR l := ⟨_, rfl⟩
  rw [← hL] at hl C1 C2 C3 C4 C5 C6 C7 C8 C9 C10 ⊢
  rw [← hP] at hp C1 C2 C3 C4 C7 C8 ⊢
  rw [← hb] at C9 C10
  clear h1 h2 h3 h4 hL hP hb
  go_enter Try.func18, Try.ntmps18
  go_wp2_with fail
  refine (C1.out w H.out H2.out).mono ?_
  rintro e w1 ⟨rfl, B⟩
  have H := Lib.hid (H.out.below B)
  have H2 := Lib.hid (H2.out.below B)
  have HB := Lib.hid B
  clear B C1
  go_wp2_with fail
  refine (C2.out w1 H.out H2.out).mono ?_
  rintro e w2 ⟨rfl, B⟩
  have H := Lib.hid (H.out.below B)
  have H2 := Lib.hid (H2.out.below B)
  have HB := Lib.hid (HB.out.trans (B.mono HB.out.size))
  clear B C2
  go_wp2_with fail
  refine (C3.out w2 H.out H2.out).mono ?_
  rintro e w3 ⟨rfl, B⟩
  have H := Lib.hid (H.out.below B)
  have H2 := Lib.hid (H2.out.below B)
  have HB := Lib.hid (HB.out.trans (B.mono HB.out.size))
  clear B C3
  go_wp2_with fail
  refine (C4.out w3 H.out H2.out).mono ?_
  rintro e w4 ⟨rfl, B⟩
  have H := Lib.hid (H.out.below B)
  have H2 := Lib.hid (H2.out.below B)
  have HB := Lib.hid (HB.out.trans (B.mono HB.out.size))
  clear B C4
  go_wp2_with fail
  refine (C5.out w4 H.out).mono ?_
  rintro e w5 ⟨v5, rfl, O5, B⟩
  obtain ⟨A5, c5, rfl, R5, _, hd5, _⟩ := O5.slice
  have H := Lib.hid (H.out.below B)
  have H2 := Lib.hid (H2.out.below B)
  have HB := Lib.hid (HB.out.trans (B.mono HB.out.size))
  have HR5 := Lib.hid R5
  have HDL := Lib.hid hd5
  obtain ⟨D, hD⟩ : ∃ n, n = ds.length := ⟨_, rfl⟩
  have HD := Lib.hid hD
  rw [← hD] at hd5 ⊢
  clear B C5 O5 R5 hD
  go_wp2_with fail
  refine (C6.out w5 H.out).mono ?_
  rintro e w6 ⟨v6, rfl, O6, B⟩
  obtain ⟨A6, c6, rfl, R6, _, _, _⟩ := O6.slice
  have H := Lib.hid (H.out.below B)
  have H2 := Lib.hid (H2.out.below B)
  have HB := Lib.hid (HB.out.trans (B.mono HB.out.size))
  have HR5 := Lib.hid (HR5.out.below B)
  have HR6 := Lib.hid R6
  rw [← HD.out]
  clear B C6 O6 R6
  go_wp2_with fail
  refine (C7.out w6 H.out H2.out).mono ?_
  rintro e w7 ⟨rfl, B⟩
  have H := Lib.hid (H.out.below B)
  have H2 := Lib.hid (H2.out.below B)
  have HB := Lib.hid (HB.out.trans (B.mono HB.out.size))
  have HR5 := Lib.hid (HR5.out.below B)
  have HR6 := Lib.hid (HR6.out.below B)
  clear B C7
  go_wp2_with fail
  refine (C8.out w7 H.out H2.out).mono ?_
  rintro e w8 ⟨rfl, B⟩
  have H := Lib.hid (H.out.below B)
  have H2 := Lib.hid (H2.out.below B)
  have HB := Lib.hid (HB.out.trans (B.mono HB.out.size))
  have HR5 := Lib.hid (HR5.out.below B)
  have HR6 := Lib.hid (HR6.out.below B)
  clear B C8
  go_wp2_with fail
  refine (C9.out w8 H.out).mono ?_
  rintro e w9 ⟨rfl, B⟩
  have H := Lib.hid (H.out.below B)
  have HB := Lib.hid (HB.out.trans (B.mono HB.out.size))
  have HR5 := Lib.hid (HR5.out.below B)
  have HR6 := Lib.hid (HR6.out.below B)
  clear B C9
  go_wp2_with fail
  refine (C10.out w9 H.out).mono ?_
  rintro e w10 ⟨rfl, B⟩
  have HB := Lib.hid (HB.out.trans (B.mono HB.out.size))
  have HR5 := Lib.hid (HR5.out.below B)
  have HR6 := Lib.hid (HR6.out.below B)
  clear B C10 H H2
  have ci := ints_same ds A5 A6 c5 c6 w10 HR5.out HR6.out HDL.out
  rw [← HD.out] at ci
  have HCI := Lib.hid ci
  clear ci
  go_wp2_with fail
  refine HCI.out.mono ?_
  rintro e w11 ⟨rfl, n, rfl⟩
  go_wp2_with fail
  go_ret
  exact ⟨rfl, bdn HB.out⟩
end Go.Proofs.Ytbnlaopmmgoalaa
