/-
  Stage 11: the indexes in the order of their blocks, by the library's sort.
-/
import Derived.Test.YtpimdcljecipeaaJVal
import Derived.Test.YtpimdcljecipeaaWApp
import Derived.Test.YtpimdcljecipeaaJBox
import Derived.Test.YtpimdcljecipeaaJTop
import Derived.Test.YtpimdcljecipeaaJShelf
import Derived.Lib.SortBridge
set_option linter.unusedSimpArgs false
set_option linter.unusedVariables false
namespace Go.Proofs.Ytpimdcljecipeaa
open Go.RowKit Go.Lib Go.Shelf Go.Sort

theorem Own.after_sort {α : Type} [Inhabited α] {T : TypeId} {w : World} {base g n c m : Nat} {zs : List Int} (h : Own .i64 T w base (.slice (some ⟨g, 0, none⟩) n c) zs) (hn : n = zs.length) (f : α → Int) (d : Array α) (hd : d.size = zs.length) (os : Array Obj) :
    Own .i64 T (sortWorld (fun x => Value.int .i64 (f x)) w g 0 m d os) base (.slice (some ⟨g, 0, none⟩) n c) (d.toList.map f) := by
  subst hn
  refine ⟨by simp, ?_⟩
  rcases h.2 with ⟨e, _⟩ | ⟨g', cap, cur, e, hb, hh, h1, h2, h3, h4⟩
  · cases e
  · injection e with e1 e2 e3
    injection e1 with e1
    injection e1 with e1
    subst e1; subst e3
    have hlen : (d.toList.map f).length = zs.length := by simp [hd]
    refine Or.inr ⟨g, c, putCells (fun x => Value.int .i64 (f x)) 0 d cur, by rw [hlen], hb, ?_, by rw [hlen]; exact h1, h2, by unfold putCells; rw [Array.size_mapIdx]; exact h3, ?_⟩
    · have hg : g < w.heap.size := (Array.getElem?_eq_some_iff.1 hh).1
      show (_ ++ os)[g]? = _
      rw [Array.getElem?_append_left (by show g < (w.heap.modify g _).size; rw [Array.size_modify]; exact hg)]
      show (w.heap.modify g _)[g]? = _
      rw [Array.getElem?_modify, if_pos rfl, hh]
      rfl
    · refine List.ext_getElem? fun j => ?_
      rw [hlen, ← hd, Nat.mul_one, List.getElem?_take]
      by_cases hj : j < d.size
      · rw [if_pos hj]
        unfold putCells
        have hc : j < cur.size := by omega
        simp [Array.getElem?_toList, Array.getElem?_mapIdx, hc, hj]
      · rw [if_neg hj, List.getElem?_eq_none (by simp; omega)]
theorem below_sort {α : Type} [Inhabited α] {enc : α → Value} {B g m : Nat} {w0 w : World} (h : Below B w0 w) (hg : B ≤ g) (hB : B ≤ w.heap.size) (d : Array α) (os : Array Obj) : Below B w0 (sortWorld enc w g 0 m d os) := by
  refine h.trans ⟨rfl, rfl, rfl, ?_, fun i hi => ?_⟩
  · show w.heap.size ≤ (_ ++ os).size
    rw [Array.size_append]
    show w.heap.size ≤ (w.heap.modify g _).size + os.size
    rw [Array.size_modify]; omega
  · show (_ ++ os)[i]? = _
    rw [Array.getElem?_append_left (by show i < (w.heap.modify g _).size; rw [Array.size_modify]; omega)]
    show (w.heap.modify g _)[i]? = _
    rw [Array.getElem?_modify, if_neg (by omega)]
/-- The comparison. -/
def cmpB (l : List It) (x y : Nat) : Int := Lib.compareInt (blk l x) (blk l y)
theorem cmpB_lt (l : List It) (x y : Nat) : cmpB l x y < 0 ↔ blk l x < blk l y := by
  unfold cmpB Lib.compareInt
  by_cases h : blk l x < blk l y
  · simp [h]
  · by_cases h2 : blk l y < blk l x <;> simp [h, h2]
theorem compare_any (x y : Int) (w : World) : Calls Try.prog 41 #[.int .i64 x, .int .i64 y] w fun e w' => e = .returned (.int .i64 (Lib.compareInt x y)) ∧ w' = w := AnyG.cmp_Compare_int compareC x y w
set_option maxHeartbeats 800000 in
theorem closure_any (l : List It) (A : Option Addr) (c b : Nat) (x y : Nat) (hx : x < l.length) (hy : y < l.length) (w : World) (h : IRow w A l) (hb : w.cell? ⟨b, 0, none⟩ = some (.slice A l.length c)) :
    Calls Try.prog 40 #[.int .i64 (x : Int), .int .i64 (y : Int), .pointer (some ⟨b, 0, none⟩)] w fun e w' => e = .returned (.int .i64 (cmpB l x y)) ∧ ∃ q, w' = w.drewN q := by
  obtain ⟨ad, rfl, C⟩ := h.at_ x hx
  obtain ⟨ad', e', D⟩ := h.at_ y hy
  obtain rfl : ad = ad' := by injection e'
  obtain ⟨c0, c1, c2, c3⟩ := C.spelt
  obtain ⟨d0, d1, d2, d3⟩ := D.spelt
  have HC := Lib.hid (fun W => compare_any (blk l x) (blk l y) W)
  have HR := Lib.hid (show cmpB l x y = Lib.compareInt (blk l x) (blk l y) from rfl)
  change w.cell? _ = some (Value.int .i64 (blk l x)) at c1
  change w.cell? _ = some (Value.int .i64 (blk l y)) at d1
  have hl : l.length ≤ 9223372036854775807 := h.len
  obtain ⟨L, hL⟩ : ∃ n, n = l.length := ⟨_, rfl⟩
  rw [← hL] at hb hx hy hl
  rw [HR.out]
  generalize Lib.compareInt (blk l x) (blk l y) = r at *
  generalize blk l x = bx at *
  generalize blk l y = bY at *
  have x1 : (x : Int) < (L : Int) := by omega
  have y1 : (y : Int) < (L : Int) := by omega
  clear C D c0 c2 c3 d0 d2 d3 h e' HR hL hx hy
  go_enter Try.func40, Try.ntmps40
  go_wp2_with fail
  go_quiet ((go_at_call 41; exact Calls.quiet_of_same (HC.out _)))
  go_wp2_with fail
  go_ret
  exact ⟨rfl, _, rfl⟩
/-- The indexes of l in the order of the blocks. -/
structure ByBlk (l : List It) (os : List Nat) : Prop where
  perm : os.Perm (List.range l.length)
  asc : ∀ i j, i < j → j < os.length → blk l (os.getD i 0) ≤ blk l (os.getD j 0)
def ByPost (l : List It) (w : World) (e : Ending) (w' : World) : Prop :=
  ∃ v os, e = .returned v ∧ ByBlk l os ∧ Own .i64 3 w' w.heap.size v (toZ os) ∧ Below w.heap.size w w'
theorem swoB (l : List It) (n : Nat) (k : Fin (n + 1) → Nat) : SWO (ltOf fun x y : Fin (n + 1) => cmpB l (k x) (k y)) where
  irrefl x := by unfold ltOf; simp [cmpB_lt]
  trans x y z h1 h2 := by unfold ltOf at *; simp [cmpB_lt] at *; omega
  ntrans x y z h1 h2 := by unfold ltOf at *; simp [cmpB_lt] at *; omega
theorem byblk_of {l : List It} {n : Nat} (hn : l.length = n + 1) {d d' : Array (Fin (n + 1))} (hd : d.toList.map Fin.val = List.range (n + 1)) (hp : PermIn 0 d.size d d') (hs : SortedIn (ltOf fun x y : Fin (n + 1) => cmpB l x.val y.val) 0 d.size d') : ByBlk l (d'.toList.map Fin.val) := by
  obtain ⟨h1, _, h3⟩ := hp
  have e1 : d.extract 0 d.size = d := by simp
  have e2 : d'.extract 0 d.size = d' := by rw [← h1]; simp
  rw [e1, e2] at h3
  refine ⟨?_, fun i j hij hj => ?_⟩
  · rw [hn, ← hd]; exact h3.map _
  · have hj' : j < d'.size := by simpa using hj
    have := hs i j (Nat.zero_le _) hij (by omega)
    unfold ltOf at this
    simp only [decide_eq_false_iff_not, cmpB_lt] at this
    have gi : (d'.toList.map Fin.val).getD i 0 = (d'[i]!).val := by
      rw [List.getD_eq_getElem?_getD]
      have : i < d'.size := by omega
      simp [this]
    have gj : (d'.toList.map Fin.val).getD j 0 = (d'[j]!).val := by
      rw [List.getD_eq_getElem?_getD]
      simp [hj']
    rw [gi, gj]; omega
theorem fin_list (n : Nat) : ((Array.ofFn (fun i : Fin n => i)).toList.map Fin.val) = List.range n := by
  refine List.ext_getElem? fun j => ?_
  by_cases h : j < n
  · simp [h]
  · simp [h]
/-- The first k are laid. -/
def filZ (n k : Nat) : List Int := (List.range n).map fun (j : Nat) => if j < k then (j : Int) else 0
theorem filZ_len (n k : Nat) : (filZ n k).length = n := by unfold filZ; simp
theorem filZ_zero (n : Nat) : filZ n 0 = List.replicate n 0 := by
  refine List.ext_getElem? fun j => ?_
  unfold filZ
  by_cases h : j < n <;> simp [h]
theorem filZ_set (n k : Nat) : (filZ n k).set k (k : Int) = filZ n (k + 1) := by
  refine List.ext_getElem? fun j => ?_
  rw [List.getElem?_set]
  unfold filZ
  by_cases hj : k = j
  · subst hj
    by_cases h : k < n <;> simp [h]
  · rw [if_neg hj]
    by_cases h : j < n
    · simp only [List.getElem?_map, List.getElem?_range h, Option.map_some]
      by_cases g : j < k
      · rw [if_pos g, if_pos (by omega)]
      · rw [if_neg g, if_neg (by omega)]
    · simp [h]
theorem filZ_all (n : Nat) : filZ n n = toZ (List.range n) := by
  unfold filZ toZ
  exact List.map_congr_left fun j hj => if_pos (List.mem_range.1 hj)
theorem byblk_nil {l : List It} (h : l.length = 0) : ByBlk l [] := ⟨by rw [h]; exact List.Perm.refl _, fun i j _ h => absurd h (Nat.not_lt_zero _)⟩
set_option maxRecDepth 100000 in
set_option maxHeartbeats 1600000 in
theorem byblocks_any (l : List It) (A : Option Addr) (c : Nat) (w : World) (h : IRow w A l) (hl : l.length ≤ 96) :
    Calls Try.prog 29 #[.slice A l.length c] w (ByPost l w) := by
  have H := Lib.hid h
  obtain ⟨L, hL⟩ : ∃ n, n = l.length := ⟨_, rfl⟩
  have HL := Lib.hid hL
  rw [← hL] at hl ⊢
  have hcell : (w.alloc (.cells #[.slice A L c] 23)).cell? ⟨w.heap.size, 0, none⟩ = some (.slice A L c) := by rw [cell_new]; rfl
  have B0 := Lib.hid ((Below.refl w.heap.size w).alloc (Nat.le_refl _) (.cells #[.slice A L c] 23))
  have hsz : (w.alloc (.cells #[.slice A L c] 23)).heap.size = w.heap.size + 1 := by simp
  obtain ⟨b, hb⟩ : ∃ b, b = w.heap.size := ⟨_, rfl⟩
  have HBB := Lib.hid hb
  clear h hL
  go_enter Try.func29, Try.ntmps29
  go_upto_region 1 with fail
  rw [← hb] at hcell hsz ⊢
  generalize w.alloc (.cells #[.slice A L c] 23) = w1 at *
  have hmk := make_ints w1 L (by omega)
  have hsb : w.heap.size ≤ w1.heap.size := by omega
  have O0 := Lib.hid (Own.laid (k := .i64) (T := 3) w1 w1.heap.size (Nat.le_refl _) (List.replicate L 0) L (by simp) (by omega))
  have C0 := Lib.hid (((Below.refl w1.heap.size w1).alloc (Nat.le_refl _) (.cells ((List.replicate L 0).map (Value.int .i64)).toArray 3)).cell (p := ⟨b, 0, none⟩) (by show b < _; omega) |>.trans hcell)
  have B1 := Lib.hid (B0.out.alloc hsb (.cells ((List.replicate L 0).map (Value.int .i64)).toArray 3))
  have HS1 := Lib.hid (show w1.heap.size < (w1.alloc (.cells ((List.replicate L 0).map (Value.int .i64)).toArray 3)).heap.size by simp)
  have HG := Lib.hid (show b < w1.heap.size by omega)
  obtain ⟨g, hg⟩ : ∃ g, g = w1.heap.size := ⟨_, rfl⟩
  have HWG := Lib.hid (show w.heap.size ≤ g by omega)
  rw [← hg] at O0 HG hmk HS1
  generalize w1.alloc (.cells ((List.replicate L 0).map (Value.int .i64)).toArray 3) = w2 at *
  clear hsb hsz hg hb
  rw [← filZ_zero] at O0
  go_wp2_with fail
  clear hcell
  go_loopw [10] (fun iv wr => ∃ k : Nat, k ≤ L ∧ iv = .int .i64 (k : Int) ∧ Hid (Own .i64 3 wr g (.slice (some ⟨g, 0, none⟩) L L) (filZ L k)) ∧ Hid (wr.cell? ⟨b, 0, none⟩ = some (.slice A L c)) ∧ Hid (RowKit.Below w.heap.size w wr)) (fun iv _ => L - (intOf iv).toNat)
  case atStart => exact ⟨0, by omega, rfl, O0, C0, B1⟩
  case round =>
    clear O0 C0 B1 hmk HS1
    obtain ⟨k, hk, rfl, O, C, B⟩ := hrel
    by_cases hlt : k < L
    · have d := O.out.cell (filZ_len L k).symm k (by rw [filZ_len]; exact hlt)
      have fz := O.out.frozen (filZ_len L k).symm k
      have O2 := Lib.hid (O.out.store (filZ_len L k).symm k (k : Int))
      rw [filZ_set] at O2
      have C2 := Lib.hid ((World.cell?_setCell_other wr ⟨g, k, none⟩ ⟨b, 0, none⟩ (.int .i64 (k : Int)) (fun e => by have h1 := congrArg Addr.block e; have h2 := HG.out; simp at h1; omega)).trans C.out)
      have B2 := Lib.hid (B.out.setCell (p := ⟨g, k, none⟩) HWG.out (.int .i64 (k : Int)))
      go_wp2_with fail
      go_roundw
      case rel => exact ⟨k + 1, by omega, by go_num, O2, C2, B2⟩
      case measure => simp [intOf]; omega
    · obtain rfl : k = L := by omega
      rw [filZ_all] at O
      have HI := Lib.hid (H.out.below B.out)
      clear hlt hk
      cases k with
      | zero =>
        have hS := fun W => AnyF.slices_SortFunc_none (P := Try.prog) (ρ := sortL_ren) { sortL with } (some ⟨g, 0, none⟩) 0 (.func (.func 40) #[] #[.pointer (some ⟨b, 0, none⟩)]) W
        change ∀ W, Calls Try.prog 39 _ _ _ at hS
        have HN := Lib.hid (byblk_nil (l := l) HL.out.symm)
        have O3 := Lib.hid (O.out.base HWG.out)
        clear H HI C O HL HBB HG HWG
        go_wp2_with (go_at_call 39; refine (hS _).mono ?_; rintro e w' ⟨rfl, rfl⟩)
        go_ret
        exact ⟨_, [], rfl, HN.out, O3.out, B.out⟩
      | succ n =>
        have eg : ∀ args w, (callFunc 40 args).run Try.prog w = .ok (.enter 40 args) w := enters_of Try.func40 (by kernel_rfl) rfl
        have hds : (Array.ofFn (fun i : Fin (n + 1) => i)).size = n + 1 := by simp
        have hgl := (own_block O.out (g := g) rfl).2
        have hrl : (toZ (List.range (n + 1))).length = n + 1 := by rw [toZ_len]; simp
        have hH : Holds (fun x : Fin (n + 1) => Value.int .i64 (x.val : Int)) wr g 0 (Array.ofFn (fun i : Fin (n + 1) => i)) := fun j hj => by
          rw [hds] at hj
          have d := O.out.cell hrl.symm j (by rw [hrl]; exact hj)
          have fz := O.out.frozen hrl.symm j
          rw [toZ_at _ (by simpa using hj)] at d
          rw [Nat.zero_add]
          refine ⟨d.trans ?_, fz⟩
          simp [hj, List.getD_eq_getElem?_getD]
        have hC : CmpReads Try.prog 40 #[.pointer (some ⟨b, 0, none⟩)] (fun x : Fin (n + 1) => Value.int .i64 (x.val : Int)) (fun x y => cmpB l x.val y.val) g 0 (Array.ofFn (fun i : Fin (n + 1) => i)).size wr := fun m os dk hs x y => by
          have b1 := below_sort (enc := fun x : Fin (n + 1) => Value.int .i64 (x.val : Int)) (m := m) B.out HWG.out B.out.size dk os
          have b2 := below_sort (enc := fun x : Fin (n + 1) => Value.int .i64 (x.val : Int)) (m := m) (RowKit.Below.refl g wr) (Nat.le_refl g) (Nat.le_of_lt hgl) dk os
          have hx := x.isLt
          have hy := y.isLt
          have e := closure_any l A c b x.val y.val (by rw [← HL.out]; exact hx) (by rw [← HL.out]; exact hy) _ (H.out.below b1) (by rw [← HL.out]; exact (b2.cell (p := ⟨b, 0, none⟩) HG.out).trans C.out)
          exact e
        have hS := Any.slices_SortFunc sortL (fun x : Fin (n + 1) => Value.int .i64 (x.val : Int)) (fun _ => rfl) (fun x y => cmpB l x.val y.val) (swoB l n Fin.val) 40 #[.pointer (some ⟨b, 0, none⟩)] g 0 (n + 1) (Array.ofFn (fun i : Fin (n + 1) => i)) wr eg hC.lays hH hgl (by rw [hds]; omega)
        rw [hds] at hS
        change Calls Try.prog 39 _ _ _ at hS
        have HS := Lib.hid hS
        clear hH hC eg hS H C HI
        go_wp2_with (go_at_call 39; refine HS.out.mono ?_; rintro e w' ⟨rfl, d', n', os, hp, hs, rfl⟩)
        go_ret
        refine ⟨_, d'.toList.map Fin.val, rfl, byblk_of HL.out.symm (fin_list (n + 1)) (by rw [hds]; exact hp) (by rw [hds]; exact hs), ?_, below_sort B.out HWG.out B.out.size d' os⟩
        have := (O.out.base HWG.out).after_sort (m := n') hrl.symm (fun x : Fin (n + 1) => (x.val : Int)) d' (by rw [hrl]; exact hp.1.trans hds) os
        unfold toZ
        rw [List.map_map]
        exact this
end Go.Proofs.Ytpimdcljecipeaa
