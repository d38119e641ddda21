/-
  Stage 13: how an item comes before another, and the least number because of it; the maker of the iterator.
-/
import Derived.Test.YtkopbnppjhdbgaaYIter
import Derived.Test.YtkopbnppjhdbgaaJLaw
import Derived.Test.YtkopbnppjhdbgaaKFns
set_option linter.unusedSimpArgs false
set_option linter.unusedVariables false
namespace Go.Proofs.Ytkopbnppjhdbgaa
open Go.RowKit Go.Lib

/-- The number that an item needs because of one with the number k. -/
def vk (r k : Int) : Int := if r = 2 then k + 1 else if r = 1 then k else 0
theorem via_vk (l : List It) (v : List Int) (x y : Nat) : via l v x y = vk (rel l x y) (v.getD x 0) := rfl
theorem vk_bd {r k : Int} (hk : 0 ≤ k) : 0 ≤ vk r k ∧ vk r k ≤ k + 1 := by
  unfold vk; split
  · omega
  · split <;> omega
/-- What relation and leastBehind leave. -/
def IntPost (z : Int) (w : World) (e : Ending) (w' : World) : Prop := e = .returned (.int .i64 z) ∧ Below w.heap.size w w'
set_option maxHeartbeats 800000 in
theorem yrel_any (l : List It) (A : Option Addr) (c L : Nat) (wt : Int) (hL : L = l.length) (hv : validR l wt = 0) (x y : Nat) (hx : x < L) (hy : y < L) (w : World) (h : IRow w A l) :
    Calls Try.prog 72 #[jv A L c wt, .int .i64 (x : Int), .int .i64 (y : Int)] w (IntPost (rel l x y) w) := by
  have hr := fun W k => relationF_any l A c wt (x : Int) (y : Int) W k
  unfold RelPost at hr
  rw [relE_ok hv (by omega) (by omega), ← hL] at hr
  have HR := Lib.hid hr
  have H := Lib.hid h
  have B0 := Lib.hid ((Below.refl w.heap.size w).alloc (Nat.le_refl _) (.cells #[.slice A L c, .int .i64 wt] 24))
  have J0 := Lib.hid (JBox.new (w := w) (A := A) (n := L) (c := c) (wt := wt) w.heap.size rfl)
  obtain ⟨b, hb⟩ : ∃ b, b = w.heap.size := ⟨_, rfl⟩
  clear h hr hL hx hy hv
  go_enter Try.func72, Try.ntmps72
  go_upto_region 1 with fail
  rw [← hb] at J0 ⊢
  generalize w.alloc (.cells #[.slice A L c, .int .i64 wt] 24) = w1 at *
  obtain ⟨j0, j1, jl⟩ := J0.out
  clear hb
  go_wp2_with fail
  refine (HR.out w1 (H.out.below B0.out)).mono ?_
  rintro e w2 ⟨rfl, hB2⟩
  have B2 := Lib.hid (B0.out.trans (hB2.mono B0.out.size))
  clear j0 j1 jl J0 B0 hB2 HR
  go_wp2_with fail
  go_ret
  exact ⟨rfl, B2.out⟩
set_option maxHeartbeats 800000 in
theorem lb_any (l : List It) (A : Option Addr) (c L : Nat) (wt : Int) (hL : L = l.length) (hv : validR l wt = 0) (x y : Nat) (k : Int) (hk : 0 ≤ k ∧ k ≤ 1000000) (hx : x < L) (hy : y < L) (w : World) (h : IRow w A l) :
    Calls Try.prog 57 #[jv A L c wt, .int .i64 (x : Int), .int .i64 k, .int .i64 (y : Int)] w (IntPost (vk (rel l x y) k) w) := by
  have HR := Lib.hid (fun W h => yrel_any l A c L wt hL hv x y hx hy W h)
  have H := Lib.hid h
  have hc := rel_cases l x y
  have e : vk (rel l x y) k = if rel l x y = 2 then k + 1 else if rel l x y = 1 then k else 0 := rfl
  generalize vk (rel l x y) k = z at *
  generalize rel l x y = r at *
  have B0 := Lib.hid ((Below.refl w.heap.size w).alloc (Nat.le_refl _) (.cells #[.slice A L c, .int .i64 wt] 24))
  have J0 := Lib.hid (JBox.new (w := w) (A := A) (n := L) (c := c) (wt := wt) w.heap.size rfl)
  obtain ⟨b, hb⟩ : ∃ b, b = w.heap.size := ⟨_, rfl⟩
  clear h hx hy hv hL
  go_enter Try.func57, Try.ntmps57
  go_upto_region 1 with fail
  rw [← hb] at J0 ⊢
  generalize w.alloc (.cells #[.slice A L c, .int .i64 wt] 24) = w1 at *
  obtain ⟨j0, j1, jl⟩ := J0.out
  clear hb
  rcases hc with g | g | g
  · subst g
    rw [if_neg (by decide), if_neg (by decide)] at e
    subst e
    go_wp2_with fail
    refine (HR.out w1 (H.out.below B0.out)).mono ?_
    rintro e w2 ⟨rfl, hB2⟩
    have B2 := Lib.hid (B0.out.trans (hB2.mono B0.out.size))
    clear j0 j1 jl J0 B0 hB2 HR
    go_wp2_with fail
    go_ret
    exact ⟨rfl, B2.out⟩
  · subst g
    rw [if_neg (by decide), if_pos rfl] at e
    subst e
    go_wp2_with fail
    refine (HR.out w1 (H.out.below B0.out)).mono ?_
    rintro e w2 ⟨rfl, hB2⟩
    have B2 := Lib.hid (B0.out.trans (hB2.mono B0.out.size))
    clear j0 j1 jl J0 B0 hB2 HR
    go_wp2_with fail
    go_ret
    exact ⟨rfl, B2.out⟩
  · subst g
    rw [if_pos rfl] at e
    subst e
    go_wp2_with fail
    refine (HR.out w1 (H.out.below B0.out)).mono ?_
    rintro e w2 ⟨rfl, hB2⟩
    have B2 := Lib.hid (B0.out.trans (hB2.mono B0.out.size))
    clear j0 j1 jl J0 B0 hB2 HR
    go_wp2_with fail
    go_ret
    exact ⟨rfl, B2.out⟩
theorem byB_any (A : Option Addr) (n c : Nat) (w : World) :
    Calls Try.prog 56 #[.slice A n c] w fun e w' => e = .returned (.func (.func 71) #[] #[.pointer (some ⟨w.heap.size, 0, none⟩)]) ∧ w' = w.alloc (.cells #[.slice A n c] 22) := by
  go_enter Try.func56, Try.ntmps56
  go_wp2_with fail
  go_ret
  exact ⟨rfl, rfl⟩
open Go.Shelf in
theorem bb_stops (n : Nat) (hn : 1 ≤ n) (l : List It) (A : Option Addr) (c Ba n₀ : Nat) (hl : l.length ≤ 96) (w : World)
    (hBa : w.cell? ⟨Ba, 0, none⟩ = some (.slice A l.length c)) (hn0 : n₀ ≤ w.heap.size) (hR : Row .i64 w n₀ A (flatI l)) :
    SeqStopsK Fence.wide n Try.prog 71 #[.pointer (some ⟨Ba, 0, none⟩)] (fun z : Ix l => encI z) (KpI n₀ Ba) (fun ys => ys = ordN l 32) (fun pre => pre <+: ordN l 32) 4000 w := fun yl J Jx W hW hJ hJx hY hj0 =>
  bb_in n hn l A c yl Ba n₀ J Jx hl hY W ((hW.cell (p := ⟨Ba, 0, none⟩) (lt_of_cell hBa)).trans hBa) (Nat.le_trans hn0 hW.size)
    (hR.under (hW.mono hn0)) hJ hj0
theorem ownFrom_stable {β : Type} {B : Nat} {I : β → World → Prop} (hs : ∀ s W, I s W → B ≤ W.heap.size) (h : ∀ s W W', I s W → Below B W W' → I s W') : OwnFrom B I :=
  fun s W W' row hI hg hr => h s W W' hI ((Below.refl B W).grown hg (hs s W hI) (fun k e => (hr k e).1))
end Go.Proofs.Ytkopbnppjhdbgaa
