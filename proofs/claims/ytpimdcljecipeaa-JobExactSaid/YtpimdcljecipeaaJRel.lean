/-
  Stage 11: how an item comes before another; the level that it needs.
-/
import Derived.Test.YtpimdcljecipeaaJVal
import Derived.Test.YtpimdcljecipeaaWApp
set_option linter.unusedSimpArgs false
set_option linter.unusedVariables false
namespace Go.Proofs.Ytpimdcljecipeaa
open Go.RowKit Go.Lib

/-- The cells of two items. -/
theorem IRow.two {w : World} {A : Option Addr} {l : List It} (h : IRow w A l) {x y : Nat} (hx : x < l.length) (hy : y < l.length) :
    ∃ ad : Addr, A = some ad ∧ w.cell? (ad.add (x * 4)) = some (.int .i64 (trn l x)) ∧ w.cell? ⟨(ad.add (x * 4)).block, (ad.add (x * 4)).off + 1, none⟩ = some (.int .i64 (blk l x)) ∧ w.cell? (ad.add (y * 4)) = some (.int .i64 (trn l y)) ∧ w.cell? ⟨(ad.add (y * 4)).block, (ad.add (y * 4)).off + 1, none⟩ = some (.int .i64 (blk l y)) := by
  obtain ⟨ad, rfl, C⟩ := h.at_ x hx
  obtain ⟨ad', e', D⟩ := h.at_ y hy
  obtain rfl : ad = ad' := by injection e'
  obtain ⟨c0, c1, _, _⟩ := C.spelt
  obtain ⟨d0, d1, _, _⟩ := D.spelt
  exact ⟨ad, rfl, c0, c1, d0, d1⟩
def NumPost (z : Int) (w : World) (e : Ending) (w' : World) : Prop := e = .returned (.int .i64 z) ∧ ∃ q, w' = w.drewN q
set_option maxHeartbeats 800000 in
theorem relation_any (l : List It) (A : Option Addr) (c : Nat) (x y : Nat) (hx : x < l.length) (hy : y < l.length) (w : World) (h : IRow w A l) :
    Calls Try.prog 27 #[.slice A l.length c, .int .i64 (x : Int), .int .i64 (y : Int)] w (NumPost (rel l x y) w) := by
  have hl : l.length ≤ 9223372036854775807 := h.len
  obtain ⟨ad, rfl, c0, c1, d0, d1⟩ := h.two hx hy
  have e : rel l x y = if trn l x ≠ trn l y ∨ blk l y ≤ blk l x then 0 else if y < x then 2 else 1 := rfl
  obtain ⟨L, hL⟩ : ∃ n, n = l.length := ⟨_, rfl⟩
  rw [← hL] at hx hy hl ⊢
  have x1 : (x : Int) < (L : Int) := by omega
  have y1 : (y : Int) < (L : Int) := by omega
  generalize rel l x y = r at *
  generalize trn l x = tx at *
  generalize trn l y = ty at *
  generalize blk l x = bx at *
  generalize blk l y = bY at *
  clear h hL hx hy
  by_cases h1 : tx = ty
  · subst h1
    by_cases h2 : bY ≤ bx
    · rw [if_pos (Or.inr h2)] at e
      subst e
      have hne : (tx != tx) = false := by simp
      go_enter Try.func27, Try.ntmps27
      go_wp2_with fail
      go_quiet (fail)
      go_wp2_with fail
      go_ret
      exact ⟨rfl, _, rfl⟩
    · rw [if_neg (fun g => by rcases g with g | g; exact g rfl; exact h2 g)] at e
      have hne : (tx != tx) = false := by simp
      have hge : ¬ bY ≤ bx := h2
      by_cases h3 : y < x
      · rw [if_pos h3] at e
        subst e
        have h3' : (y : Int) < (x : Int) := by omega
        go_enter Try.func27, Try.ntmps27
        go_wp2_with fail
        go_quiet (fail)
        go_wp2_with fail
        go_ret
        exact ⟨rfl, _, rfl⟩
      · rw [if_neg h3] at e
        subst e
        have h3' : ¬ (y : Int) < (x : Int) := by omega
        go_enter Try.func27, Try.ntmps27
        go_wp2_with fail
        go_quiet (fail)
        go_wp2_with fail
        go_ret
        exact ⟨rfl, _, rfl⟩
  · rw [if_pos (Or.inl h1)] at e
    subst e
    have hne : (tx != ty) = true := by simpa using h1
    go_enter Try.func27, Try.ntmps27
    go_wp2_with fail
    go_quiet (fail)
    go_wp2_with fail
    go_ret
    exact ⟨rfl, _, rfl⟩
set_option maxHeartbeats 800000 in
theorem levelVia_any (l : List It) (A V : Option Addr) (c cv nv : Nat) (v : List Int) (x y : Nat) (hx : x < l.length) (hy : y < l.length) (w : World) (h : IRow w A l) (hv : Row .i64 w w.heap.size V v) (hn : nv = v.length) (hvl : v.length = l.length) (hb : ∀ k, k < l.length → 0 ≤ v.getD k 0 ∧ v.getD k 0 ≤ 1000) :
    Calls Try.prog 30 #[.slice A l.length c, .slice V nv cv, .int .i64 (x : Int), .int .i64 (y : Int)] w (NumPost (via l v x y) w) := by
  have hl : l.length ≤ 9223372036854775807 := h.len
  obtain ⟨av, rfl, _, cv0⟩ := hv x (by rw [hvl]; exact hx)
  have HR := Lib.hid (relation_any l A c x y hx hy w h)
  have e : via l v x y = if rel l x y = 2 then v.getD x 0 + 1 else if rel l x y = 1 then v.getD x 0 else 0 := rfl
  have hr := rel_cases l x y
  obtain ⟨b1, b2⟩ := hb x hx
  have x1 : (x : Int) < (nv : Int) := by omega
  have nv1 : nv ≤ 9223372036854775807 := by omega
  generalize via l v x y = r at *
  generalize rel l x y = k at *
  generalize v.getD x 0 = z at *
  clear hv hn hvl hb h hx hy
  rcases hr with g | g | g
  · subst g
    rw [if_neg (by decide), if_neg (by decide)] at e
    subst e
    go_enter Try.func30, Try.ntmps30
    go_wp2_with fail
    refine HR.out.mono ?_
    rintro e w1 ⟨rfl, q, rfl⟩
    go_wp2_with fail
    go_ret
    exact ⟨rfl, q, rfl⟩
  · subst g
    rw [if_neg (by decide), if_pos rfl] at e
    subst e
    go_enter Try.func30, Try.ntmps30
    go_wp2_with fail
    refine HR.out.mono ?_
    rintro e w1 ⟨rfl, q, rfl⟩
    replace cv0 : (w.drewN q).cell? _ = _ := cv0
    go_wp2_with fail
    go_ret
    exact ⟨rfl, q, rfl⟩
  · subst g
    rw [if_pos rfl] at e
    subst e
    go_enter Try.func30, Try.ntmps30
    go_wp2_with fail
    refine HR.out.mono ?_
    rintro e w1 ⟨rfl, q, rfl⟩
    replace cv0 : (w.drewN q).cell? _ = _ := cv0
    go_wp2_with fail
    go_ret
    exact ⟨rfl, q, rfl⟩
end Go.Proofs.Ytpimdcljecipeaa
