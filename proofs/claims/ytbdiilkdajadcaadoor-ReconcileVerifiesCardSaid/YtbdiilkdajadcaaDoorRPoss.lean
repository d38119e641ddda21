/-
  Stage 8: the iterator over the possible edits.
-/
import Derived.RangeFuncNested
import Derived.RangeFuncBound
import Derived.RangeFuncCalls
import Derived.RangeFuncLeaves
import Derived.Shelf.Abstract
import Derived.OwnWalkIn
import Derived.TacticsInMore
import Derived.LoopNIn
import Derived.LoopIn
import Derived.Test.YtbdiilkdajadcaaDoorRIsp
set_option linter.unusedSimpArgs false
set_option linter.unusedVariables false
namespace Go.Proofs.YtbdiilkdajadcaaDoor
open Go.RowKit Go.Shelf
attribute [local go_sem] Oper.semAt_some

/-- The edits that are possible where x and y are left. -/
abbrev Pos (x y : List Int) := { n : Nat // okP x y 0 0 n = true }
def poss (x y : List Int) : Nat → List (Pos x y)
  | 0 => []
  | k + 1 => if h : okP x y 0 0 k = true then poss x y k ++ [⟨k, h⟩] else poss x y k
theorem poss_len (x y : List Int) (k : Nat) : (poss x y k).length ≤ k := by
  induction k with
  | zero => exact Nat.le_refl _
  | succ k ih =>
    unfold poss
    split
    · rw [List.length_append, List.length_singleton]; omega
    · omega
theorem poss_le (x y : List Int) (k m : Nat) (h : k ≤ m) : poss x y k <+: poss x y m := by
  induction m with
  | zero => obtain rfl : k = 0 := by omega
            exact List.prefix_refl _
  | succ m ih =>
    by_cases e : k = m + 1
    · subst e; exact List.prefix_refl _
    · have := ih (by omega)
      rw [show poss x y (m + 1) = (if h : okP x y 0 0 m = true then poss x y m ++ [⟨m, h⟩] else poss x y m) from rfl]
      split
      · exact this.trans (List.prefix_append _ _)
      · exact this
theorem poss_mem {x y : List Int} (n : Pos x y) (k : Nat) (h : n.1 < k) : n ∈ poss x y k := by
  induction k with
  | zero => omega
  | succ k ih =>
    unfold poss
    by_cases e : n.1 = k
    · rw [dif_pos (by rw [← e]; exact n.2)]
      exact List.mem_append_right _ (by rw [List.mem_singleton]; exact Subtype.ext e)
    · have := ih (by omega)
      split
      · exact List.mem_append_left _ this
      · exact this
abbrev kV (n : Nat) : Value := .agg #[.int .i64 (dA n : Int), .int .i64 (dB n : Int), .int .i64 (dC n)]
abbrev encP {x y : List Int} (n : Pos x y) : Array Value := #[.int .i64 (n.1 : Int), kV n.1]
/-- What a round keeps: what lay below n₀, and the boxes of the lists. -/
structure KpP (n₀ Ba Bb : Nat) (W W' : World) : Prop where
  bel : Below n₀ W W'
  a : W'.heap[Ba]? = W.heap[Ba]?
  b : W'.heap[Bb]? = W.heap[Bb]?
  size : W.heap.size ≤ W'.heap.size
theorem KpP.t {n₀ Ba Bb : Nat} {X Y Z : World} (h : KpP n₀ Ba Bb X Y) (k : KpP n₀ Ba Bb Y Z) : KpP n₀ Ba Bb X Z := ⟨h.bel.trans k.bel, k.a.trans h.a, k.b.trans h.b, Nat.le_trans h.size k.size⟩
theorem KpP.of_below {n₀ Ba Bb : Nat} {W W' : World} (h : Below W.heap.size W W') (h0 : n₀ ≤ W.heap.size) (ha : Ba < W.heap.size) (hb : Bb < W.heap.size) : KpP n₀ Ba Bb W W' := ⟨h.mono h0, h.block _ ha, h.block _ hb, h.size⟩
theorem cell_heap {w w' : World} {b o : Nat} (h : w'.heap[b]? = w.heap[b]?) : w'.cell? ⟨b, o, none⟩ = w.cell? ⟨b, o, none⟩ := World.cell?_of_block (w := w) h
theorem abides_below {β : Type} {B : Nat} {J : β → World → Prop} (h : AbidesFrom B J) {s : β} {W W' : World} (hs : J s W) (b : Below W.heap.size W W') : J s W' :=
  h s W W' none hs ⟨b.os, b.tape, b.output, b.size, fun k hk _ => b.block k hk⟩ (fun r e => by cases e)

abbrev kdV : Value := .agg #[.int .i64 1, .int .i64 1, .int .i64 0, .int .i64 1, .int .i64 1, .int .i64 3, .int .i64 1, .int .i64 0, .int .i64 4, .int .i64 0, .int .i64 1, .int .i64 4, .int .i64 2, .int .i64 2, .int .i64 4]
theorem run_idx (k : Nat) (h : k < 5) (w : World) : (Instr.index 55 kdV (.int .i64 (k : Int))).run Tryd.prog w = .ok (kV k) w := by
  have h5 : k = 0 ∨ k = 1 ∨ k = 2 ∨ k = 3 ∨ k = 4 := by omega
  rcases h5 with rfl | rfl | rfl | rfl | rfl
  all_goals first | rfl | go_simp | simp [Instr.index, go_sem]
set_option maxRecDepth 100000 in
set_option maxHeartbeats 3200000 in
theorem poss1_in (n : Nat) (hn : 1 ≤ n) (x y : List Int) (A B : Option Addr) (ca cb l Ba Bb n₀ : Nat) (J Jx : List (Pos x y) → World → Prop) (lx : x.length ≤ 1000000000) (ly : y.length ≤ 1000000000)
    (hY : ∀ pre z W, J pre W → pre.length < 5 → YieldAt Fence.wide (n - 1) Tryd.prog l (encP z) W fun e W' =>
      (e = .returned (.bool true) ∧ J (pre ++ [z]) W' ∧ KpP n₀ Ba Bb W W') ∨ (e = .returned (.bool false) ∧ Jx (pre ++ [z]) W'))
    (W : World) (hBa : W.cell? ⟨Ba, 0, none⟩ = some (.slice A x.length ca)) (hBb : W.cell? ⟨Bb, 0, none⟩ = some (.slice B y.length cb)) (hK : Knd W) (h0 : 0 < n₀) (hn0 : n₀ ≤ W.heap.size)
    (hx : Row .i64 W n₀ A x) (hy : Row .i64 W n₀ B y) (hJ : AbidesFrom W.heap.size J) (hj0 : J [] W) :
    CallsIn Fence.wide n Tryd.prog 37 #[.func (.yield l) #[] #[], .pointer (some ⟨Ba, 0, none⟩), .pointer (some ⟨Bb, 0, none⟩)] W fun e W' => (∃ v, e = .returned v) ∧
      ((∃ ys, ys = poss x y 5 ∧ J ys W') ∨ (∃ pre, pre <+: poss x y 5 ∧ Jx pre W')) := by
  have k0 := hK.cs 0 (by decide)
  have k1 := hK.cs 1 (by decide)
  have k2 := hK.cs 2 (by decide)
  have k3 := hK.cs 3 (by decide)
  have k4 := hK.cs 4 (by decide)
  have k5 := hK.cs 5 (by decide)
  have k6 := hK.cs 6 (by decide)
  have k7 := hK.cs 7 (by decide)
  have k8 := hK.cs 8 (by decide)
  have k9 := hK.cs 9 (by decide)
  have k10 := hK.cs 10 (by decide)
  have k11 := hK.cs 11 (by decide)
  have k12 := hK.cs 12 (by decide)
  have k13 := hK.cs 13 (by decide)
  have k14 := hK.cs 14 (by decide)
  simp only [kdL, List.getD_cons_zero, List.getD_cons_succ] at k0 k1 k2 k3 k4 k5 k6 k7 k8 k9 k10 k11 k12 k13 k14
  refine callsIn_of_wp Tryd.func37 rfl trivial ?_ rfl
  simp only [Tryd.ntmps37, List.size_toArray, List.length_cons, List.length_nil, Nat.reduceAdd, Nat.reduceSub, Array.replicate_succ, Array.replicate_zero, List.push_toArray, List.append_toArray, List.nil_append, List.cons_append]
  gi_wp2
  gi_loopw [7] (fun i wr => ∃ k : Nat, k ≤ 5 ∧ i = .int .i64 k ∧ J (poss x y k) wr ∧ KpP n₀ Ba Bb W wr) (fun i _ => 5 - (intOf i).toNat)
  case atStart => exact ⟨0, by omega, rfl, hj0, KpP.of_below (Below.refl _ _) hn0 (lt_of_cell hBa) (lt_of_cell hBb)⟩
  case round =>
    clear k0 k1 k2 k3 k4 k5 k6 k7 k8 k9 k10 k11 k12 k13 k14
    obtain ⟨k, hk, rfl, hj, kp⟩ := hrel
    by_cases hlt : k < 5
    · have hidx := run_idx k hlt wr
      obtain ⟨W1, hW1⟩ : ∃ W1, W1 = wr.alloc (.cells #[.int .i64 (dA k : Int), .int .i64 (dB k : Int), .int .i64 (dC k)] 54) := ⟨_, rfl⟩
      have hsz : wr.heap.size < W1.heap.size := by rw [hW1]; simp
      have b1 : Below wr.heap.size wr W1 := by rw [hW1]; exact (Below.refl _ _).alloc (Nat.le_refl _) _
      have sW : W.heap.size ≤ wr.heap.size := kp.size
      have a1 : Ba < wr.heap.size := Nat.lt_of_lt_of_le (lt_of_cell hBa) sW
      have a2 : Bb < wr.heap.size := Nat.lt_of_lt_of_le (lt_of_cell hBb) sW
      have kp1 : KpP n₀ Ba Bb W W1 := kp.t (KpP.of_below b1 (Nat.le_trans hn0 sW) a1 a2)
      have cA : W1.cell? ⟨Ba, 0, none⟩ = some (.slice A x.length ca) := (cell_heap kp1.a).trans hBa
      have cB : W1.cell? ⟨Bb, 0, none⟩ = some (.slice B y.length cb) := (cell_heap kp1.b).trans hBb
      have q0 : W1.cell? ⟨wr.heap.size, 0, none⟩ = some (.int .i64 (dA k : Int)) := by rw [hW1, cell_new]; rfl
      have q1 : W1.cell? ⟨wr.heap.size, 1, none⟩ = some (.int .i64 (dB k : Int)) := by rw [hW1, cell_new]; rfl
      have q2 : W1.cell? ⟨wr.heap.size, 2, none⟩ = some (.int .i64 (dC k)) := by rw [hW1, cell_new]; rfl
      have ISP := isp_any (k : Int) x y A B ca cb W1 (hK.below kp1.bel h0) ((hx.under kp1.bel).more (Nat.le_trans hn0 (by omega))) ((hy.under kp1.bel).more (Nat.le_trans hn0 (by omega))) lx ly
      rw [okI_nat hlt] at ISP
      rw [hW1] at cA cB q0 q1 q2 ISP
      have bN : ∀ nd, Below wr.heap.size wr (W1.drewN nd) := fun nd => b1.trans ⟨rfl, rfl, rfl, Nat.le_refl _, fun _ _ => rfl⟩
      have HJ1 := fun nd => abides_below hJ hj (bN nd)
      have HKN : ∀ nd, KpP n₀ Ba Bb W (W1.drewN nd) := fun nd => kp.t (KpP.of_below (bN nd) (Nat.le_trans hn0 sW) a1 a2)
      rw [hW1] at HJ1 HKN
      clear b1 bN hx hy hJ hK
      by_cases hok : okP x y 0 0 k = true
      · rw [hok] at ISP
        have hY' := fun W => hY (poss x y k) ⟨k, hok⟩ W
        dsimp only [YieldAt] at hY'
        have hps : poss x y (k + 1) = poss x y k ++ [⟨k, hok⟩] := by rw [show poss x y (k + 1) = (if h : okP x y 0 0 k = true then poss x y k ++ [⟨k, h⟩] else poss x y k) from rfl, dif_pos hok]
        gi_wp2_with (refine ⟨trivial, ?_⟩; gi_at_call 34; refine (callsIn_wide.2 ISP).mono ?_; rintro e w' ⟨rfl, nd, rfl⟩; have p0 := q0; have p1 := q1; have p2 := q2; obtain ⟨fn, tmps, assign, body, hy, hR⟩ := hY' _ (HJ1 nd) (by have := poss_len x y k; omega))
        refine hR.mono ?_
        rintro e W3 (⟨rfl, hJ3, hk3⟩ | ⟨rfl, hJx3⟩)
        · gi_wp2
          go_roundw
          case rel => exact ⟨k + 1, by omega, by simp, by rw [hps]; exact hJ3, (HKN _).t hk3⟩
          case measure => simp [intOf]; omega
        · gi_wp2
          refine bodyPost_ret (results_none rfl _ _ _) rfl ?_
          exact ⟨⟨_, rfl⟩, .inr ⟨_, by rw [← hps]; exact poss_le x y _ _ (by omega), hJx3⟩⟩
      · have hf : okP x y 0 0 k = false := by cases h : okP x y 0 0 k <;> simp_all
        rw [hf] at ISP
        have hps : poss x y (k + 1) = poss x y k := by rw [show poss x y (k + 1) = (if h : okP x y 0 0 k = true then poss x y k ++ [⟨k, h⟩] else poss x y k) from rfl, dif_neg hok]
        gi_wp2_with (refine ⟨trivial, ?_⟩; gi_at_call 34; refine (callsIn_wide.2 ISP).mono ?_; rintro e w' ⟨rfl, nd, rfl⟩)
        refine ⟨fun _ h => (by cases h), ?_⟩
        gi_wp2
        go_roundw
        case rel => exact ⟨k + 1, by omega, by simp, by rw [hps]; exact HJ1 nd, HKN nd⟩
        case measure => simp [intOf]; omega
    · obtain rfl : k = 5 := by omega
      gi_wp2
      go_end0
      exact ⟨⟨_, rfl⟩, .inl ⟨_, rfl, hj⟩⟩
end Go.Proofs.YtbdiilkdajadcaaDoor
