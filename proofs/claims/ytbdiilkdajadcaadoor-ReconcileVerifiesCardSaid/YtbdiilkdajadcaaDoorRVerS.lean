/-
  Stage 8: tables that come in; isWithin, near, hasShape.
-/
import Derived.Test.YtbdiilkdajadcaaDoorRMath
import Derived.Test.YtbdiilkdajadcaaDoorRSl
import Derived.IntWalk
set_option linter.unusedSimpArgs false
set_option linter.unusedVariables false
namespace Go.Proofs.YtbdiilkdajadcaaDoor
open Go.RowKit

/-- The slice from A on reads as lists. -/
def PP (w : World) (A : Option Addr) (ps : List (List Int)) : Prop :=
  ∀ k p, ps[k]? = some p → ∃ ad : Addr, A = some ad ∧ ad.block < w.heap.size ∧ ∃ a c, w.cell? (ad.add k) = some (.slice a p.length c) ∧ Row .i64 w w.heap.size a p ∧ p.length ≤ maxLen
theorem PP.below {w w' : World} {A : Option Addr} {ps : List (List Int)} (h : PP w A ps) (b : Below w.heap.size w w') : PP w' A ps := fun k p hk => by
  obtain ⟨ad, e, hb, a, c, hc, hr, hm⟩ := h k p hk
  exact ⟨ad, e, Nat.lt_of_lt_of_le hb b.size, a, c, (b.cell (by rw [add_block]; exact hb)).trans hc, hr.below b, hm⟩
theorem getD_ex {α : Type} {l : List α} {k : Nat} (d : α) (h : k < l.length) : l[k]? = some (l.getD k d) := by
  rw [List.getD_eq_getElem?_getD, List.getElem?_eq_getElem h]; rfl
theorem PP.at_ {w : World} {A : Option Addr} {ps : List (List Int)} (h : PP w A ps) {k : Nat} (hk : k < ps.length) : ∃ ad : Addr, A = some ad ∧ ∃ a c, w.cell? (ad.add k) = some (.slice a (ps.getD k []).length c) ∧ Row .i64 w w.heap.size a (ps.getD k []) ∧ (ps.getD k []).length ≤ maxLen := by
  obtain ⟨ad, e, _, a, c, h1, h2, h3⟩ := h k _ (getD_ex [] hk)
  exact ⟨ad, e, a, c, h1, h2, h3⟩
def at2 (ps : List (List Int)) (x y : Nat) : Int := (ps.getD x []).getD y 0
/-- All numbers of the table are of 64 bits. -/
def Wid (ps : List (List Int)) : Prop := ∀ x y, -9223372036854775808 ≤ at2 ps x y ∧ at2 ps x y ≤ 9223372036854775807
structure Shp (ps : List (List Int)) (L M : Nat) : Prop where
  len : ps.length = L
  row : ∀ i, i < L → (ps.getD i []).length = M
/-- What a table must be to prove a cost. -/
structure Ver (a b : List Int) (cost : Int) (ps : List (List Int)) : Prop where
  sml : ¬ lngP a b
  shp : Shp ps (a.length + 1) (b.length + 1)
  z : at2 ps 0 0 = 0
  top : cost ≤ at2 ps a.length b.length
  le : ∀ x y n, x ≤ a.length → y ≤ b.length → okP a b x y n = true → at2 ps (x + dA n) (y + dB n) ≤ at2 ps x y + dC n
def VerPost (a b : List Int) (cost : Int) (ps : List (List Int)) (w : World) (e : Ending) (w' : World) : Prop := (∃ r, e = .returned (.bool r) ∧ (r = true ↔ Ver a b cost ps)) ∧ Below w.heap.size w w'
theorem VerPost.no {a b : List Int} {cost : Int} {ps : List (List Int)} {w w' : World} (h : ¬ Ver a b cost ps) (hb : Below w.heap.size w w') : VerPost a b cost ps w (.returned (.bool false)) w' := ⟨⟨false, rfl, fun h => (by cases h), fun k => absurd k h⟩, hb⟩
theorem VerPost.yes {a b : List Int} {cost : Int} {ps : List (List Int)} {w w' : World} (h : Ver a b cost ps) (hb : Below w.heap.size w w') : VerPost a b cost ps w (.returned (.bool true)) w' := ⟨⟨true, rfl, fun _ => h, fun _ => rfl⟩, hb⟩
/-- The cells of a table of the right shape. -/
theorem PP.cells {w : World} {ad : Addr} {ps : List (List Int)} {L M : Nat} (h : PP w (some ad) ps) (hs : Shp ps L M) {x y : Nat} (hx : x < L) (hy : y < M) : ∃ a1 c, w.cell? (ad.add x) = some (.slice (some a1) M c) ∧ w.cell? (a1.add y) = some (.int .i64 (at2 ps x y)) := by
  obtain ⟨ad', e, a, c, h1, h2, h3⟩ := h.at_ (k := x) (by rw [hs.len]; exact hx)
  injection e with e
  subst e
  rw [hs.row x hx] at h1
  obtain ⟨a1, rfl, _, hc⟩ := h2 y (by rw [hs.row x hx]; exact hy)
  exact ⟨a1, c, h1, hc⟩

theorem wrapU (x : Int) : IntKind.u64.wrap x = x % 18446744073709551616 := by
  unfold IntKind.wrap
  simp only []
  rw [show IntKind.u64.signed = false from rfl, Bool.false_and]
  rfl
theorem u64_diff {t f : Int} (h1 : f < t) (h2 : -9223372036854775808 ≤ f) (h3 : t ≤ 9223372036854775807) : (t % 18446744073709551616 - f % 18446744073709551616) % 18446744073709551616 = t - f := by omega
set_option maxHeartbeats 800000 in
theorem within_any (t f c : Int) (w : World) (ht : -9223372036854775808 ≤ t ∧ t ≤ 9223372036854775807) (hf : -9223372036854775808 ≤ f ∧ f ≤ 9223372036854775807) (hc : 0 ≤ c ∧ c ≤ 4) :
    Calls Tryd.prog 30 #[.int .i64 t, .int .i64 f, .int .i64 c] w fun e w' => e = .returned (.bool (decide (t ≤ f + c))) ∧ w = w' := by
  by_cases h : t ≤ f
  · rw [decide_eq_true (by omega)]
    go_enter Tryd.func30, Tryd.ntmps30
    go_wp2_with fail
    go_ret
    exact ⟨by simp [h], rfl⟩
  · go_enter Tryd.func30, Tryd.ntmps30
    go_wp2_with fail
    go_ret
    refine ⟨ret_bool ?_, rfl⟩
    rw [wrapU, wrapU, wrapU, u64_diff (by omega) (by omega) (by omega)]
    exact decide_eq_decide.2 (by omega)
set_option maxHeartbeats 800000 in
theorem near_any (t f c : Int) (w : World) (ht : -9223372036854775808 ≤ t ∧ t ≤ 9223372036854775807) (hf : -9223372036854775808 ≤ f ∧ f ≤ 9223372036854775807) (hc : 0 ≤ c ∧ c ≤ 4) :
    Calls Tryd.prog 35 #[.int .i64 t, .int .i64 f, .int .i64 c] w fun e w' => e = .returned (.bool (decide (t ≤ f + c))) ∧ w = w' := by
  by_cases h : t ≤ f
  · rw [decide_eq_true (by omega)]
    go_enter Tryd.func35, Tryd.ntmps35
    go_wp2_with fail
    go_ret
    exact ⟨by simp [h], rfl⟩
  · go_enter Tryd.func35, Tryd.ntmps35
    go_wp2_with fail
    go_ret
    refine ⟨ret_bool ?_, rfl⟩
    rw [wrapU, wrapU, wrapU, u64_diff (by omega) (by omega) (by omega)]
    exact decide_eq_decide.2 (by omega)
def ShpPost (ps : List (List Int)) (L M : Nat) (w : World) (e : Ending) (w' : World) : Prop := (∃ r, e = .returned (.bool r) ∧ (r = true ↔ Shp ps L M)) ∧ w = w'
theorem ShpPost.no {ps : List (List Int)} {L M : Nat} {w : World} (h : ¬ Shp ps L M) : ShpPost ps L M w (.returned (.bool false)) w := ⟨⟨false, rfl, fun h => (by cases h), fun k => absurd k h⟩, rfl⟩
theorem ShpPost.yes {ps : List (List Int)} {L M : Nat} {w : World} (h : Shp ps L M) : ShpPost ps L M w (.returned (.bool true)) w := ⟨⟨true, rfl, fun _ => h, fun _ => rfl⟩, rfl⟩
set_option maxHeartbeats 1600000 in
theorem shape_any (ps : List (List Int)) (A P B : Option Addr) (la ca lb cb cp : Nat) (w : World) (h : PP w P ps) (l1 : la ≤ 96) (l2 : lb ≤ 96) (lp : ps.length ≤ maxLen) :
    Calls Tryd.prog 29 #[.slice P ps.length cp, .slice A la ca, .slice B lb cb] w (ShpPost ps (la + 1) (lb + 1) w) := by
  have H := Lib.hid h
  obtain ⟨N, hN⟩ : ∃ N, N = ps.length := ⟨_, rfl⟩
  have HN := Lib.hid hN
  rw [← hN] at lp ⊢
  unfold maxLen at lp
  clear h hN
  by_cases hl : N = la + 1
  · have e1 : ((N : Int) == (la : Int) + 1) = true := beq_iff_eq.2 (by omega)
    have e2 : ((N : Int) != (la : Int) + 1) = false := by simp [bne, e1]
    go_enter Tryd.func29, Tryd.ntmps29
    go_wp2_with fail
    go_loop [17] (fun i => ∃ k : Nat, k ≤ N ∧ i = .int .i64 (k : Int) ∧ Hid (∀ x, x < k → (ps.getD x []).length = lb + 1)) (fun i => N - (intOf i).toNat)
    case atStart => exact ⟨0, by omega, rfl, Lib.hid (fun x hx => absurd hx (Nat.not_lt_zero x))⟩
    case round =>
      obtain ⟨k, hk, rfl, G⟩ := hrel
      by_cases hlt : k < N
      · obtain ⟨ad, rfl, a1, c1, hc, -, hm⟩ := H.out.at_ (k := k) (by rw [← HN.out]; exact hlt)
        obtain ⟨q, hq⟩ : ∃ q, q = (ps.getD k []).length := ⟨_, rfl⟩
        rw [← hq] at hc hm
        unfold maxLen at hm
        have HQ := Lib.hid hq
        have k1 : (k : Int) < (N : Int) := by omega
        clear hq
        by_cases hql : q = lb + 1
        · have f1 : ((q : Int) == (lb : Int) + 1) = true := beq_iff_eq.2 (by omega)
          have f2 : ((q : Int) != (lb : Int) + 1) = false := by simp [bne, f1]
          have HG := Lib.hid (show ∀ x, x < k + 1 → (ps.getD x []).length = lb + 1 from fun x hx => by
            by_cases e : x = k
            · subst e; rw [← HQ.out]; exact hql
            · exact G.out x (by omega))
          clear hql
          go_wp2_with fail
          go_round
          case rel => exact ⟨k + 1, by omega, by go_num, HG⟩
          case measure => simp [intOf] <;> omega
        · have f1 : ((q : Int) == (lb : Int) + 1) = false := beq_eq_false_iff_ne.2 (by omega)
          have f2 : ((q : Int) != (lb : Int) + 1) = true := by simp [bne, f1]
          have HF := Lib.hid (show ¬ Shp ps (la + 1) (lb + 1) from fun h => hql (by rw [HQ.out]; exact h.row k (by omega)))
          go_wp2_with fail
          go_ret
          exact ShpPost.no HF.out
      · obtain rfl : k = N := by omega
        have HF := Lib.hid (show Shp ps (la + 1) (lb + 1) from ⟨by rw [← HN.out]; exact hl, fun i hi => G.out i (by omega)⟩)
        go_wp2_with fail
        go_ret
        exact ShpPost.yes HF.out
  · have e1 : ((N : Int) == (la : Int) + 1) = false := beq_eq_false_iff_ne.2 (by omega)
    have e2 : ((N : Int) != (la : Int) + 1) = true := by simp [bne, e1]
    have HF := Lib.hid (show ¬ Shp ps (la + 1) (lb + 1) from fun h => hl (by rw [HN.out]; exact h.len))
    go_enter Tryd.func29, Tryd.ntmps29
    go_wp2_with fail
    go_ret
    exact ShpPost.no HF.out
end Go.Proofs.YtbdiilkdajadcaaDoor
