/-
  Stage 16: the numbers of a list, handed over one by one, gathered and sorted.
-/
import Derived.Test.YtknkgcphamhjlaaAPln
import Derived.Test.YtknkgcphamhjlaaABl
import Derived.Test.YtknkgcphamhjlaaAShelf
set_option linter.unusedSimpArgs false
set_option linter.unusedVariables false
namespace Go.Proofs.Ytknkgcphamhjlaa
open Go.RowKit Go.Maps Go.Sort Go.Shelf

set_option maxRecDepth 100000 in
set_option maxHeartbeats 1000000 in
/-- Handing a list over: whatever the caller keeps between rounds, so long as it leaves what lay before as it was. -/
theorem values1_any (l Bs : Nat) (A : Option Addr) (c L : Nat) (zs : List Int) (hL : zs.length = L) (hm : L ≤ 1000000) (w0 : World) (hc : w0.cell? ⟨Bs, 0, none⟩ = some (.slice A L c)) (hr : Row .i64 w0 w0.heap.size A zs) (J : List Int → World → Prop)
    (hB : ∀ pre W, J pre W → Below w0.heap.size w0 W)
    (hY : ∀ pre x W, J pre W → pre.length < L → YieldAt Fence.wide 1 Try.prog l #[encZ x] W fun e W' => e = .returned (.bool true) ∧ J (pre ++ [x]) W' ∧ KeepsWalks W W')
    (W : World) (h0 : J [] W) :
    CallsIn Fence.wide 2 Try.prog 40 #[.func (.yield l) #[] #[], .pointer (some ⟨Bs, 0, none⟩)] W fun e W' => (∃ v, e = .returned v) ∧ J zs W' := by
  have HC := Lib.hid hc
  have HR := Lib.hid hr
  have HB := Lib.hid hB
  have HY := Lib.hid hY
  have HL := Lib.hid hL
  have hlt0 := lt_of_cell hc
  have hcW : W.cell? ⟨Bs, 0, none⟩ = some (.slice A L c) := ((hB [] W h0).cell (p := ⟨Bs, 0, none⟩) hlt0).trans hc
  have HJ := Lib.hid h0
  clear hc hr hB hY hL h0
  have h40 : Fence.wide.fn 40 := trivial
  refine callsIn_of_wp Try.func40 rfl trivial ?_ rfl
  simp only [Try.ntmps40, List.size_toArray, List.length_cons, List.length_nil, Nat.reduceAdd, Nat.reduceSub, Array.replicate_succ, Array.replicate_zero, List.push_toArray, List.append_toArray, List.nil_append, List.cons_append]
  gi_wp2
  gi_loopw [7] (fun iv wr => ∃ k : Nat, k ≤ L ∧ iv = .int .i64 (k : Int) ∧ Hid (J (zs.take k) wr)) (fun iv _ => L - (intOf iv).toNat)
  case atStart => exact ⟨0, by omega, rfl, HJ⟩
  case round =>
    clear HJ hcW
    obtain ⟨k, hk, rfl, J0⟩ := hrel
    by_cases hlt : k < L
    · obtain ⟨ad, rfl, hb, c1⟩ := HR.out k (by rw [HL.out]; exact hlt)
      have c2 : wr.cell? (ad.add k) = some (.int .i64 (zs.getD k 0)) := ((HB.out _ _ J0.out).cell (by rw [add_block]; exact hb)).trans c1
      obtain ⟨x, hx⟩ : ∃ x, x = zs.getD k 0 := ⟨_, rfl⟩
      rw [← hx] at c2
      have HT := Lib.hid (show zs.take (k + 1) = zs.take k ++ [x] by
        rw [List.take_succ_eq_append_getElem (by rw [HL.out]; exact hlt), hx, List.getD_eq_getElem?_getD, List.getElem?_eq_getElem (by rw [HL.out]; exact hlt)]; rfl)
      obtain ⟨fn, tmps, assign, body, hy, hR⟩ := HY.out (zs.take k) x wr J0.out (by rw [List.length_take]; have := HL.out; omega)
      have hltz : (k : Int) < (L : Int) := by omega
      clear c1 hx
      gi_wp2
      refine hR.mono ?_
      rintro e W3 ⟨rfl, hJ3, hk3⟩
      rw [← HT.out] at hJ3
      have J3 := Lib.hid hJ3
      clear hJ3 hk3 c2 hy hR
      gi_wp2
      go_roundw
      case rel => exact ⟨k + 1, by omega, by go_num, J3⟩
      case measure => simp [intOf]; omega
    · obtain rfl : k = L := by omega
      have hltz : ¬ (k : Int) < (k : Int) := by omega
      have HF := Lib.hid (show J zs wr from by have := J0.out; rw [← HL.out, List.take_length] at this; exact this)
      gi_wp2
      go_end0
      exact ⟨⟨_, rfl⟩, HF.out⟩
set_option maxRecDepth 100000 in
set_option maxHeartbeats 2000000 in
/-- .. gathered into a list of the call's own. -/
theorem gather_any (Bs : Nat) (A : Option Addr) (c L : Nat) (zs : List Int) (hL : zs.length = L) (hm : L ≤ 1000000) (w : World) (hc : w.cell? ⟨Bs, 0, none⟩ = some (.slice A L c)) (hr : Row .i64 w w.heap.size A zs) :
    CallsIn Fence.wide 3 Try.prog 45 #[.slice none 0 0, .func (.func 40) #[] #[.pointer (some ⟨Bs, 0, none⟩)]] w fun e w' => ∃ v, e = .returned v ∧ Own .i64 3 w' w.heap.size v zs ∧ Below w.heap.size w w' := by
  have HC := Lib.hid hc
  have HR := Lib.hid hr
  have HL := Lib.hid hL
  have Ly : SlLaysZI.n11 Try.prog sortedL_ren := { sortedL with }
  have HLY := Lib.hid Ly
  have eg : ∀ args w, (callFunc 40 args).run Try.prog w = .ok (.enter 40 args) w := enters_of Try.func40 (by kernel_rfl) rfl
  have u0 := run_underlying Ly.t0; have u24 := run_underlying Ly.t24; have u26 := run_underlying Ly.t26; have u28 := run_underlying Ly.t28
  have t0 := Ly.t0; have a0 := Ly.a0; have z0 := Ly.z0; have v0 := Ly.v0; have t24 := Ly.t24; have a24 := Ly.a24; have z24 := Ly.z24; have v24 := Ly.v24; have t26 := Ly.t26; have a26 := Ly.a26; have z26 := Ly.z26; have v26 := Ly.v26
  have h11 : Fence.wide.fn (sortedL_ren.f 11) := trivial
  obtain ⟨_, _, FG⟩ := Ly.f11
  clear hc hr hL Ly
  have e45 : sortedL_ren.f 11 = 45 := rfl
  rw [← e45]
  refine callsIn_of_wp_marks FG rfl h11 ?_ rfl
  simp only [SlBodyZ.n11_ntmps sortedL_ren, List.size_toArray, List.length_cons, List.length_nil, Nat.reduceAdd, Nat.reduceSub, Array.replicate_succ, Array.replicate_zero, List.push_toArray, List.append_toArray, List.nil_append, List.cons_append]
  gi_wp2
  refine wpIn_rangeFunc ?_
  intro fn hfn
  obtain ⟨sv, hsv⟩ : ∃ s, s = Value.func (.func 40) #[] #[.pointer (some ⟨Bs, 0, none⟩)] := ⟨_, rfl⟩
  obtain ⟨W0, hW0⟩ : ∃ W0, w.alloc (.cells #[.slice none 0 0] (sortedL_ren.t 24)) = W0 := ⟨_, rfl⟩
  have hs0 : W0.heap.size = w.heap.size + 1 := by rw [← hW0]; simp
  have hv0 : W0.heap[w.heap.size]? = some (.cells #[.slice none 0 0] (sortedL_ren.t 24) (0, 0)) := by rw [← hW0]; exact World.alloc_heap_new w _
  have hb0 : Below w.heap.size w W0 := by rw [← hW0]; exact (Below.refl _ w).alloc (Nat.le_refl _) _
  rw [hW0]
  obtain ⟨W1, hW1⟩ : ∃ W1, (W0.alloc (.deferred (some []))).alloc (.loop (AnyZI.apRec sortedL_ren fn sv w.heap.size W0.heap.size .ready none)) = W1 := ⟨_, rfl⟩
  have hold : ∀ k, k < W0.heap.size → W1.heap[k]? = W0.heap[k]? := fun k hk => by
    rw [← hW1]; exact (Below.heap_alloc _ _ k (by simp; omega)).trans (Below.heap_alloc _ _ k hk)
  have hb1 : Below w.heap.size w W1 := by rw [← hW1]; exact (hb0.alloc hb0.size _).alloc (by have := hb0.size; simp; omega) _
  have hM : AnyZI.ApAt sortedL_ren w fn sv w.heap.size (W0.heap.size + 1) W0.heap.size [] W1 :=
    ⟨⟨_, (hold w.heap.size (by omega)).trans hv0, ⟨rfl, .inl ⟨rfl, rfl⟩⟩, by simp⟩,
     by rw [← hW1]; have := World.alloc_heap_new (W0.alloc (.deferred (some []))) (.loop (AnyZI.apRec sortedL_ren fn sv w.heap.size W0.heap.size .ready none)); rwa [World.size_alloc] at this,
     by rw [← hW1]; exact (Below.heap_alloc _ _ _ (by simp)).trans (World.alloc_heap_new W0 _), hb1⟩
  rw [hsv] at hW1
  refine ⟨W0.heap.size + 1, [{ target := .collected W0.heap.size, args := #[] }], W1, { target := .fn (.func 40) #[.pointer (some ⟨Bs, 0, none⟩)], args := #[.func (.yield (W0.heap.size + 1)) #[] #[]] }, W1, 40,
    #[.func (.yield (W0.heap.size + 1)) #[] #[]] ++ #[.pointer (some ⟨Bs, 0, none⟩)], W1, ?_, ?_, ?_, ?_, fun _ => by omega, ?_⟩
  · rw [← hW1]; exact run_enterLoop_outer _ _ _ _ _
  · simp [resolve, go_sem]
  · intro f' hf'; exact trivial
  · simp [invoke, go_sem, eg]
  · have hv := values1_any (W0.heap.size + 1) Bs A c L zs HL.out hm w HC.out HR.out (AnyZI.ApAt sortedL_ren w fn sv w.heap.size (W0.heap.size + 1) W0.heap.size) (fun pre W h => h.below)
      (fun pre x W hJ hl => AnyZI.apYield HLY.out Fence.wide 1 w fn hfn sv w.heap.size (W0.heap.size + 1) W0.heap.size (by omega) (by omega) (by omega) (Nat.le_refl _) (by omega) L (by unfold maxLen; omega) (by omega) pre x W hJ hl) W1 hM
    refine hv.mono ?_
    rintro e W2 ⟨⟨v0, rfl⟩, h2⟩
    obtain ⟨v, hv, hrow, hnil⟩ := h2.box
    have hend := run_endLoop (P := Try.prog) h2.L (by simp [AnyZI.apRec])
    obtain ⟨W3, hW3⟩ : ∃ W3, W2.putObj (W0.heap.size + 1) (.loop { AnyZI.apRec sortedL_ren fn sv w.heap.size W0.heap.size .ready none with state := .exhausted }) = W3 := ⟨_, rfl⟩
    rw [hW3] at hend
    have hne : sortedL_ren.t 24 ≠ sortedL_ren.t 26 := by decide
    have hg3 : W2.grownBy W3 (some (W0.heap.size + 1)) := by rw [← hW3]; exact grownBy_putObj_a _ _ _
    have hv3 : W3.heap[w.heap.size]? = some (.cells #[v] (sortedL_ren.t 24) (0, 0)) := by rw [← hW3]; exact (World.putObj_heap_other (by omega)).trans hv
    have hK3 : W3.heap[W0.heap.size]? = some (.deferred (some [])) := by rw [← hW3]; exact (World.putObj_heap_other (by omega)).trans h2.K
    have hrow3 := hrow.kept hg3 (ownsRow_ne_a hrow h2.L (fun cur e => by first | cases e | exact hne (Obj.cells.inj e).2.1))
    have hb3 : Below w.heap.size w W3 := h2.below.grown hg3 h2.below.size (fun k e => by cases e; omega)
    obtain ⟨hc3, hf3⟩ := cell_of_box_a hv3
    clear hW3
    refine ⟨none, W3, hend, ?_⟩
    gi_wp2
    rw [← hs0]
    refine ⟨by simp, .inl ⟨_, _, rfl, run_takeDeferred hK3, ?_⟩⟩
    exact ⟨_, results_tmp rfl _ _ _, v, rfl, hrow3.kept (grownBy_putObj_a _ _ _) (ownsRow_ne_a hrow3 hK3 (fun cur e => by first | cases e | exact hne (Obj.cells.inj e).2.1)), hb3.grown (grownBy_putObj_a _ _ _) hb3.size (fun k e => by cases e; omega)⟩
end Go.Proofs.Ytknkgcphamhjlaa
