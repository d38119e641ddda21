/-
  Stage 11: the reference's Kind, Strict, Relation, Base.
-/
import Derived.Test.YtpimdcljecipeaaJRef
set_option linter.unusedSimpArgs false
set_option linter.unusedVariables false
namespace Go.Proofs.Ytpimdcljecipeaa
open Go.RowKit Go.Lib

def BelPost (z : Int) (w : World) (e : Ending) (w' : World) : Prop := e = .returned (.int .i64 z) ∧ Below w.heap.size w w'
theorem two_boxes (w : World) (p q : It) (T : TypeId) :
    IPl ((w.alloc (.cells #[.int .i64 p.1, .int .i64 p.2.1, .int .i64 p.2.2.1, .int .i64 p.2.2.2] T)).alloc (.cells #[.int .i64 q.1, .int .i64 q.2.1, .int .i64 q.2.2.1, .int .i64 q.2.2.2] T)) w.heap.size p ∧
    IPl ((w.alloc (.cells #[.int .i64 p.1, .int .i64 p.2.1, .int .i64 p.2.2.1, .int .i64 p.2.2.2] T)).alloc (.cells #[.int .i64 q.1, .int .i64 q.2.1, .int .i64 q.2.2.1, .int .i64 q.2.2.2] T)) (w.heap.size + 1) q ∧
    Below w.heap.size w ((w.alloc (.cells #[.int .i64 p.1, .int .i64 p.2.1, .int .i64 p.2.2.1, .int .i64 p.2.2.2] T)).alloc (.cells #[.int .i64 q.1, .int .i64 q.2.1, .int .i64 q.2.2.1, .int .i64 q.2.2.2] T)) :=
  ⟨(IPl.new (w := w) (p := p) (T := T) w.heap.size rfl).alloc _, IPl.new (p := q) (T := T) _ (by simp), ((Below.refl _ _).alloc (Nat.le_refl _) _).alloc (by simp) _⟩
set_option maxRecDepth 100000 in
set_option maxHeartbeats 3200000 in
theorem kind_any (l : List It) (A : Option Addr) (c : Nat) (wt : Int) (x y : Nat) (hx : x < l.length) (hy : y < l.length) (w : World) (h : IRow w A l) :
    Calls Try.prog 28 #[jv A l.length c wt, .int .i64 (x : Int), .int .i64 (y : Int)] w (BelPost (rel l x y) w) := by
  have hl : l.length ≤ 9223372036854775807 := h.len
  have H := Lib.hid h
  have e : rel l x y = if trn l x ≠ trn l y ∨ blk l y ≤ blk l x then 0 else if y < x then 2 else 1 := rfl
  have HE := Lib.hid e
  have hex : trn l x = (l.getD x it0).1 ∧ blk l x = (l.getD x it0).2.1 := ⟨rfl, rfl⟩
  have hey : trn l y = (l.getD y it0).1 ∧ blk l y = (l.getD y it0).2.1 := ⟨rfl, rfl⟩
  obtain ⟨L, hL⟩ : ∃ n, n = l.length := ⟨_, rfl⟩
  have HL := Lib.hid hL
  rw [← hL] at hx hy hl ⊢
  have B0 := Lib.hid ((Below.refl w.heap.size w).alloc (Nat.le_refl _) (.cells #[.slice A L c, .int .i64 wt] 25))
  have J0 := Lib.hid (JBox.new (w := w) (A := A) (n := L) (c := c) (wt := wt) w.heap.size rfl)
  obtain ⟨b, hb⟩ : ∃ b, b = w.heap.size := ⟨_, rfl⟩
  clear h hL e
  go_enter Try.func28, Try.ntmps28
  go_upto_region 1 with fail
  rw [← hb] at J0 ⊢
  generalize w.alloc (.cells #[.slice A L c, .int .i64 wt] 25) = w1 at *
  obtain ⟨j0, j1, jl⟩ := J0.out
  clear hb
  obtain ⟨ad, rfl, C⟩ := (H.out.below B0.out).at_ x (by rw [← HL.out]; exact hx)
  obtain ⟨ad', e', D⟩ := (H.out.below B0.out).at_ y (by rw [← HL.out]; exact hy)
  obtain rfl : ad = ad' := by injection e'
  obtain ⟨⟨t, bb, n, g⟩, hp⟩ : ∃ p, p = l.getD x it0 := ⟨_, rfl⟩
  obtain ⟨⟨t', bb', n', g'⟩, hp'⟩ : ∃ p, p = l.getD y it0 := ⟨_, rfl⟩
  rw [← hp] at C hex
  rw [← hp'] at D hey
  obtain ⟨c0, c1, c2, c3⟩ := C.spelt
  obtain ⟨d0, d1, d2, d3⟩ := D.spelt
  simp only at c0 c1 c2 c3 d0 d1 d2 d3
  have hx1 : (x : Int) < (L : Int) := by omega
  have hy1 : (y : Int) < (L : Int) := by omega
  have HEX := Lib.hid hex
  have HEY := Lib.hid hey
  clear hex hey hp hp' C D e'
  go_cut [7, 8] (fun pa pb wx => ∃ qa qb : Nat, pa = .pointer (some ⟨qa, 0, none⟩) ∧ pb = .pointer (some ⟨qb, 0, none⟩) ∧ Hid (IPl wx qa (t, bb, n, g)) ∧ Hid (IPl wx qb (t', bb', n', g')) ∧ Hid (Below w.heap.size w wx))
  case first =>
    have KP := Lib.hid (show ∀ W, Below w1.heap.size w1 W → (W.cell? ⟨b, 0, none⟩ = some (.slice (some ad) L c) ∧ (W.cell? (ad.add (x * 4)) = some (.int .i64 t) ∧ W.cell? ⟨(ad.add (x * 4)).block, (ad.add (x * 4)).off + 1, none⟩ = some (.int .i64 bb) ∧ W.cell? ⟨(ad.add (x * 4)).block, (ad.add (x * 4)).off + 2, none⟩ = some (.int .i64 n) ∧ W.cell? ⟨(ad.add (x * 4)).block, (ad.add (x * 4)).off + 3, none⟩ = some (.int .i64 g)) ∧ (W.cell? (ad.add (y * 4)) = some (.int .i64 t') ∧ W.cell? ⟨(ad.add (y * 4)).block, (ad.add (y * 4)).off + 1, none⟩ = some (.int .i64 bb') ∧ W.cell? ⟨(ad.add (y * 4)).block, (ad.add (y * 4)).off + 2, none⟩ = some (.int .i64 n') ∧ W.cell? ⟨(ad.add (y * 4)).block, (ad.add (y * 4)).off + 3, none⟩ = some (.int .i64 g'))) from fun W k =>
      ⟨(k.cell (p := ⟨b, 0, none⟩) jl).trans j0, ⟨(k.cell (lt_of_cell c0)).trans c0, (k.cell (lt_of_cell c1)).trans c1, (k.cell (lt_of_cell c2)).trans c2, (k.cell (lt_of_cell c3)).trans c3⟩, ⟨(k.cell (lt_of_cell d0)).trans d0, (k.cell (lt_of_cell d1)).trans d1, (k.cell (lt_of_cell d2)).trans d2, (k.cell (lt_of_cell d3)).trans d3⟩⟩)
    have HD := Lib.hid (show Below w1.heap.size w1 w1.drew from (Below.refl _ _).drew)
    go_region_held3 (fun W => W.cell? ⟨b, 0, none⟩ = some (.slice (some ad) L c) ∧ (W.cell? (ad.add (x * 4)) = some (.int .i64 t) ∧ W.cell? ⟨(ad.add (x * 4)).block, (ad.add (x * 4)).off + 1, none⟩ = some (.int .i64 bb) ∧ W.cell? ⟨(ad.add (x * 4)).block, (ad.add (x * 4)).off + 2, none⟩ = some (.int .i64 n) ∧ W.cell? ⟨(ad.add (x * 4)).block, (ad.add (x * 4)).off + 3, none⟩ = some (.int .i64 g)) ∧ (W.cell? (ad.add (y * 4)) = some (.int .i64 t') ∧ W.cell? ⟨(ad.add (y * 4)).block, (ad.add (y * 4)).off + 1, none⟩ = some (.int .i64 bb') ∧ W.cell? ⟨(ad.add (y * 4)).block, (ad.add (y * 4)).off + 2, none⟩ = some (.int .i64 n') ∧ W.cell? ⟨(ad.add (y * 4)).block, (ad.add (y * 4)).off + 3, none⟩ = some (.int .i64 g')))
      (first | exact KP.out _ HD.out | (refine KP.out _ ?_; repeat (first | exact Below.refl _ _ | refine Below.drew ?_ | refine Below.setCell ?_ (by first | exact Nat.le_refl _ | simp) _ | refine Below.alloc ?_ (by first | exact Nat.le_refl _ | simp) _)))
      (fail)
    all_goals
      have X1 := Lib.hid (two_boxes w1 (t, bb, n, g) (t', bb', n', g') 44)
      have X2 := Lib.hid (two_boxes w1 (t', bb', n', g') (t, bb, n, g) 44)
      clear c0 c1 c2 c3 d0 d1 d2 d3 j0 j1 jl KP HD
      go_wp2_with fail
      go_meet
      case rel => first
        | exact ⟨_, _, rfl, rfl, Lib.hid (X1.out.1.drewN 1), Lib.hid (X1.out.2.1.drewN 1), Lib.hid (bdn (n := 1) (B0.out.trans (X1.out.2.2.mono B0.out.size)))⟩
        | exact ⟨_, _, rfl, rfl, Lib.hid (X2.out.2.1.drewN 1), Lib.hid (X2.out.1.drewN 1), Lib.hid (bdn (n := 1) (B0.out.trans (X2.out.2.2.mono B0.out.size)))⟩
  case rest =>
    clear c0 c1 c2 c3 d0 d1 d2 d3 j0 j1 jl
    obtain ⟨qa, qb, rfl, rfl, PA, PB, B⟩ := hcut
    obtain ⟨a0, a1, a2, a3, al⟩ := PA.out
    obtain ⟨b0, b1, b2, b3, bl⟩ := PB.out
    simp only at a0 a1 b0 b1
    have he := HE.out
    rw [HEX.out.1, HEX.out.2, HEY.out.1, HEY.out.2] at he
    simp only at he
    generalize rel l x y = r at *
    clear HE HEX HEY
    by_cases h1 : t = t'
    · subst h1
      have hne : (t != t) = false := by simp
      by_cases h2 : bb' ≤ bb
      · rw [if_pos (Or.inr h2)] at he
        subst he
        go_wp2_with fail
        go_ret
        exact ⟨rfl, B.out⟩
      · rw [if_neg (fun g => by rcases g with g | g; exact g rfl; exact h2 g)] at he
        have hge : ¬ bb' ≤ bb := h2
        by_cases h3 : y < x
        · rw [if_pos h3] at he
          subst he
          have h3' : (y : Int) < (x : Int) := by omega
          go_wp2_with fail
          go_ret
          exact ⟨rfl, B.out⟩
        · rw [if_neg h3] at he
          subst he
          have h3' : ¬ (y : Int) < (x : Int) := by omega
          go_wp2_with fail
          go_ret
          exact ⟨rfl, B.out⟩
    · rw [if_pos (Or.inl h1)] at he
      subst he
      have hne : (t != t') = true := by simpa using h1
      go_wp2_with fail
      go_ret
      exact ⟨rfl, B.out⟩
theorem rel_quo (l : List It) (x y : Nat) : (rel l x y).tdiv 2 = if rel l x y = 2 then 1 else 0 := by
  rcases rel_cases l x y with e | e | e <;> rw [e] <;> rfl
/-- 1 if strictly before. -/
def str1 (l : List It) (x y : Nat) : Int := if rel l x y = 2 then 1 else 0
theorem via_str {l : List It} {v : List Int} {x y : Nat} (h : rel l x y ≠ 0) : via l v x y = v.getD x 0 + str1 l x y := by
  rw [via_pos h]; unfold str1
  rcases rel_cases l x y with e | e | e
  · exact absurd e h
  · rw [e, if_neg (by decide)]; omega
  · rw [e, if_pos rfl]; omega
set_option maxHeartbeats 800000 in
theorem strict_any (l : List It) (A : Option Addr) (c : Nat) (wt : Int) (x y : Nat) (hx : x < l.length) (hy : y < l.length) (w : World) (h : IRow w A l) :
    Calls Try.prog 42 #[jv A l.length c wt, .int .i64 (x : Int), .int .i64 (y : Int)] w (BelPost (str1 l x y) w) := by
  have HK := Lib.hid (fun (W : World) (k : IRow W A l) => kind_any l A c wt x y hx hy W k)
  have H := Lib.hid h
  have hrc := rel_cases l x y
  have HS := Lib.hid (show str1 l x y = if rel l x y = 2 then 1 else 0 from rfl)
  obtain ⟨r, hr⟩ : ∃ r, r = rel l x y := ⟨_, rfl⟩
  obtain ⟨L, hL⟩ : ∃ n, n = l.length := ⟨_, rfl⟩
  rw [← hr] at hrc HS
  simp only [← hr] at HK
  rw [← hL] at HK ⊢
  have B0 := Lib.hid ((Below.refl w.heap.size w).alloc (Nat.le_refl _) (.cells #[.slice A L c, .int .i64 wt] 25))
  have J0 := Lib.hid (JBox.new (w := w) (A := A) (n := L) (c := c) (wt := wt) w.heap.size rfl)
  obtain ⟨b, hb⟩ : ∃ b, b = w.heap.size := ⟨_, rfl⟩
  clear h hL hr hx hy
  go_enter Try.func42, Try.ntmps42
  go_upto_region 1 with fail
  rw [← hb] at J0 ⊢
  generalize w.alloc (.cells #[.slice A L c, .int .i64 wt] 25) = w1 at *
  obtain ⟨j0, j1, jl⟩ := J0.out
  clear hb
  go_wp2_with fail
  refine (HK.out w1 (H.out.below B0.out)).mono ?_
  rintro e w2 ⟨rfl, B2⟩
  have HB := Lib.hid (B0.out.trans (B2.mono B0.out.size))
  clear B2 j0 j1 jl
  rcases hrc with e | e | e
  · subst e
    have hs := HS.out
    rw [if_neg (by decide)] at hs
    have HS2 := Lib.hid hs
    clear hs
    go_wp2_with fail
    go_ret
    exact ⟨ret_int HS2.out.symm, HB.out⟩
  · subst e
    have hs := HS.out
    rw [if_neg (by decide)] at hs
    have HS2 := Lib.hid hs
    clear hs
    go_wp2_with fail
    go_ret
    exact ⟨ret_int HS2.out.symm, HB.out⟩
  · subst e
    have hs := HS.out
    rw [if_pos rfl] at hs
    have HS2 := Lib.hid hs
    clear hs
    go_wp2_with fail
    go_ret
    exact ⟨ret_int HS2.out.symm, HB.out⟩
end Go.Proofs.Ytpimdcljecipeaa
