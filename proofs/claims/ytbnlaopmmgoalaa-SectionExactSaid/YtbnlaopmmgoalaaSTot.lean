/-
  Stage 5: the program's totals, Through, Balance: an array handed on by value.
-/
import Derived.Test.YtbnlaopmmgoalaaSCount
import Derived.Laws.Rows
import Derived.Laws.Tables
import Derived.Deep.WholeRow
set_option linter.unusedSimpArgs false
set_option linter.unusedVariables false
namespace Go.Proofs.Ytbnlaopmmgoalaa
open Go.RowKit

/-- Block b holds the numbers zs. -/
def Blk (w : World) (b : Nat) (T : TypeId) (zs : List Int) : Prop := w.heap[b]? = some (.cells (zs.map (Value.int .i64)).toArray T (0, 0))
theorem Blk.lt {w : World} {b : Nat} {T : TypeId} {zs : List Int} (h : Blk w b T zs) : b < w.heap.size := (Array.getElem?_eq_some_iff.1 h).1
theorem Blk.below {w w' : World} {b : Nat} {T : TypeId} {zs : List Int} (h : Blk w b T zs) (k : Below w.heap.size w w') : Blk w' b T zs := (k.block b h.lt).trans h
theorem Blk.alloc {w : World} {b : Nat} {T : TypeId} {zs : List Int} (h : Blk w b T zs) (o : Obj) : Blk (w.alloc o) b T zs := h.below ((Below.refl _ _).alloc (Nat.le_refl _) _)
theorem Blk.cell {w : World} {b : Nat} {T : TypeId} {zs : List Int} (h : Blk w b T zs) (j : Nat) (hj : j < zs.length) : w.cell? ⟨b, j, none⟩ = some (.int .i64 (zs.getD j 0)) := by
  rw [cell_of_row w b j _ T (0, 0) h]
  simp [hj]
theorem Blk.frozen {w : World} {b : Nat} {T : TypeId} {zs : List Int} (h : Blk w b T zs) (j : Nat) : w.frozen? ⟨b, j, none⟩ = false := frozen_of_row w b j _ T h
theorem Blk.set {w : World} {b : Nat} {T : TypeId} {zs : List Int} (h : Blk w b T zs) (j : Nat) (x : Int) : Blk (w.setCell ⟨b, j, none⟩ (.int .i64 x)) b T (zs.set j x) := by
  have := heap_setCell_same w b j _ T (.int .i64 x) h
  unfold Blk
  rw [this]
  simp
theorem Blk.setOther {w : World} {b c : Nat} {T : TypeId} {zs : List Int} (h : Blk w b T zs) (hc : b ≠ c) (j : Nat) (x : Value) : Blk (w.setCell ⟨c, j, none⟩ x) b T zs := by
  unfold Blk
  rw [heap_setCell_other w _ b _ hc]; exact h
theorem Blk.drew {w : World} {b : Nat} {T : TypeId} {zs : List Int} (h : Blk w b T zs) : Blk w.drew b T zs := h
theorem Blk.drewN {w : World} {b n : Nat} {T : TypeId} {zs : List Int} (h : Blk w b T zs) : Blk (w.drewN n) b T zs := h
theorem Blk.new (w : World) (T : TypeId) (zs : List Int) : Blk (w.alloc (.cells (zs.map (Value.int .i64)).toArray T)) w.heap.size T zs := heap_alloc_new w _

/-- The totals of all detectors, one cell behind the other. -/
def tlE (l : List Pul) (j : Nat) : Int := if j % 2 = 0 then sum (nb ((j / 2 : Nat) : Int)) l else sum (sb ((j / 2 : Nat) : Int)) l
def tl (l : List Pul) : List Int := (List.range 64).map (tlE l)
theorem tl_len (l : List Pul) : (tl l).length = 64 := by unfold tl; simp
theorem tl_at (l : List Pul) (j : Nat) (hj : j < 64) : (tl l).getD j 0 = tlE l j := by
  unfold tl
  rw [List.getD_eq_getElem?_getD, List.getElem?_map, List.getElem?_range hj]; rfl
theorem tl_even (l : List Pul) (d : Nat) (hd : d < 32) : (tl l).getD (d * 2) 0 = sum (nb d) l := by
  rw [tl_at l _ (by omega)]
  unfold tlE
  rw [if_pos (by omega), show d * 2 / 2 = d by omega]
theorem tl_odd (l : List Pul) (d : Nat) (hd : d < 32) : (tl l).getD (d * 2 + 1) 0 = sum (sb d) l := by
  rw [tl_at l _ (by omega)]
  unfold tlE
  rw [if_neg (by omega), show (d * 2 + 1) / 2 = d by omega]
theorem tl_nil : tl [] = List.replicate 64 0 := by
  apply List.ext_getElem
  · rw [tl_len]; simp
  · intro j h1 h2
    unfold tl tlE
    rw [List.getElem_replicate]
    simp [sum]
theorem tl_snoc (l : List Pul) (b : Pul) (d : Nat) (hd : d < 32) (hb : b.2.1 = d) : ((tl l).set (d * 2) (sum (nb d) l + 1)).set (d * 2 + 1) (sum (sb d) l + b.2.2) = tl (l ++ [b]) := by
  apply List.ext_getElem
  · simp [tl_len]
  · intro j h1 h2
    have hj : j < 64 := by rw [tl_len] at h2; exact h2
    have e : ∀ m : List Pul, ∀ h : j < (tl m).length, (tl m)[j] = tlE m j := fun m h => by
      have := tl_at m j hj
      rwa [List.getD_eq_getElem?_getD, List.getElem?_eq_getElem h, Option.getD_some] at this
    rw [List.getElem_set, List.getElem_set, e, e]
    unfold tlE
    by_cases g1 : d * 2 + 1 = j
    · rw [if_pos g1, if_neg (by omega), show j / 2 = d by omega, sum_step]
      unfold sb; rw [if_pos hb]
    · rw [if_neg g1]
      by_cases g2 : d * 2 = j
      · rw [if_pos g2, if_pos (by omega), show j / 2 = d by omega, sum_step]
        unfold nb; rw [if_pos hb]
      · rw [if_neg g2]
        have hne : ¬ b.2.1 = ((j / 2 : Nat) : Int) := by omega
        by_cases g3 : j % 2 = 0
        · rw [if_pos g3, if_pos g3, sum_step]
          unfold nb; rw [if_neg hne, Int.add_zero]
        · rw [if_neg g3, if_neg g3, sum_step]
          unfold sb; rw [if_neg hne, Int.add_zero]
theorem nb_bd (l : List Pul) (d : Int) (k : Nat) : -(k : Int) ≤ sum (nb d) (l.take k) ∧ sum (nb d) (l.take k) ≤ k :=
  take_bd (fun x _ => by unfold nb; split <;> decide) k
theorem sb_bd (l : List Pul) (h : ∀ b ∈ l, okB b) (d : Int) (k : Nat) : -(k : Int) ≤ sum (sb d) (l.take k) ∧ sum (sb d) (l.take k) ≤ k :=
  take_bd (fun x hx => by
    have := (h x hx).2.2
    unfold sb
    split
    · omega
    · decide) k
/-- A whole array into its block. -/
theorem wpList_store_row {P : Program} {ops : Array Oper} {rest : List Oper} {o : Oper} {a : Act} {w : World} {Q : Exit → Act → World → Prop} (hgd : o.guard = none) (ty : TypeId) (p x : Operand) (ho : o.op = .store ty p x)
    (g : Nat) (cs old : Array Value) (t : TypeId) (hp : a.eval p = .pointer (some ⟨g, 0, none⟩)) (hx : a.eval x = .agg cs) (hg : w.heap[g]? = some (.cells old t (0, 0)))
    (hi : (P.info? ty).map (·.size) = some cs.size) (hs : old.size = cs.size) (h1 : cs.all (·.oneCell') = true)
    (h : wpList P ops Q rest (a.put o.dst undef) (w.setRow g cs)) : wpList P ops Q (o :: rest) a w := by
  refine wpList_plain hgd fun K hK => ?_
  have e := run_storeVar_row (P := P) w g t ty old cs hg hi hs h1
  unfold Oper.wp execOp
  simp only [ho, hp, hx, Instr.storeAt, Instr.sureAddr, Sem.run_bind, Sem.run_pure, Result.andThen_ok, e]
  exact hK _ _ h
theorem Blk.row {w : World} {b : Nat} {T : TypeId} {zs : List Int} (h : Blk w b T zs) (ys : List Int) : Blk (w.setRow b (ys.map (Value.int .i64)).toArray) b T ys := setRow_heap w b _ _ T (0, 0) h
theorem below_setRow {B : Nat} {a w : World} (h : Below B a w) {g : Nat} (hg : B ≤ g) (cs : Array Value) : Below B a (w.setRow g cs) :=
  ⟨h.os, h.tape, h.output, by rw [size_setRow]; exact h.size, fun k hk => (setRow_other w g k cs (by omega)).trans (h.block k hk)⟩
abbrev arr (zs : List Int) : Value := .agg (zs.map (Value.int .i64)).toArray
def TotPost (l : List Pul) (w : World) (e : Ending) (w' : World) : Prop := e = .returned (arr (tl l)) ∧ Below w.heap.size w w'

set_option maxHeartbeats 1600000 in
theorem tot_any (l : List Pul) (A : Option Addr) (c : Nat) (w : World) (h : PRow w A l) (hb : ∀ b ∈ l, okB b) (h64 : l.length ≤ 64) :
    Calls Try.prog 25 #[.slice A l.length c] w (TotPost l w) := by
  have H := Lib.hid h
  have HO := Lib.hid hb
  obtain ⟨L, hL⟩ : ∃ n, n = l.length := ⟨_, rfl⟩
  have HL := Lib.hid hL
  rw [← hL] at h64 ⊢
  clear h hL hb
  obtain ⟨B0, hB0⟩ : ∃ b, b = w.heap.size := ⟨_, rfl⟩
  have HB0 := Lib.hid hB0
  clear hB0
  go_enter Try.func25, Try.ntmps25
  go_wp2_with fail
  rw [← HB0.out]
  go_loopw [8] (fun i wr => ∃ k : Nat, k ≤ L ∧ i = .int .i64 k ∧ Hid (Blk wr B0 54 (tl [])) ∧ Hid (Blk wr (B0 + 1) 54 (tl (l.take k))) ∧ Hid (Below B0 w wr)) (fun i _ => L - (intOf i).toNat)
  case atStart =>
    rw [HB0.out]
    refine ⟨0, by omega, rfl, Lib.hid ?_, Lib.hid ?_, Lib.hid ((Below.refl _ _).alloc (Nat.le_refl _) _ |>.alloc (by simp) _)⟩
    · rw [tl_nil]
      exact (Blk.new w _ (List.replicate 64 0)).alloc _
    · have := Blk.new (w.alloc (.cells ((List.replicate 64 0).map (Value.int .i64)).toArray 54)) 54 (List.replicate 64 0)
      rw [List.take_zero, tl_nil]
      rwa [World.size_alloc] at this
  case round =>
    obtain ⟨k, hk, rfl, Z, M, B⟩ := hrel
    by_cases hlt : k < L
    · have HM0 := Lib.hid M.out.lt
      obtain ⟨ad, rfl, C⟩ := (H.out.below (by rw [← HB0.out]; exact B.out)).at_ k (by rw [← HL.out]; exact hlt)
      obtain ⟨⟨s, d, z⟩, hp⟩ : ∃ p, p = l.getD k (0, 0, 0) := ⟨_, rfl⟩
      have ht := take_at hp (by rw [← HL.out]; exact hlt)
      have hox : okB (s, d, z) := by rw [hp]; exact HO.out _ (getD_memP (by rw [← HL.out]; exact hlt))
      rw [← hp] at C
      obtain ⟨c0, c1, c2⟩ := C.spelt
      obtain ⟨⟨s1, s2⟩, ⟨d1, d2⟩, hz⟩ := hox
      simp only at s1 s2 d1 d2 hz
      obtain ⟨dn, rfl⟩ := Int.eq_ofNat_of_zero_le d1
      have M1 := Lib.hid (M.out.alloc (.cells #[.int .i64 s, .int .i64 (dn : Int), .int .i64 z] 24))
      have tn := nb_bd l dn k
      have ts := sb_bd l HO.out dn k
      have m0 := M1.out.cell (dn * 2) (by rw [tl_len]; omega)
      have f0 := M1.out.frozen (dn * 2)
      rw [tl_even _ _ (by omega)] at m0
      obtain ⟨u, hu⟩ : ∃ u, u = sum (nb dn) (l.take k) := ⟨_, rfl⟩
      obtain ⟨v, hv⟩ : ∃ u, u = sum (sb dn) (l.take k) := ⟨_, rfl⟩
      rw [← hu] at tn m0
      rw [← hv] at ts
      have HU := Lib.hid hu
      have HV := Lib.hid hv
      have HT := Lib.hid ht
      have HLT := Lib.hid hlt
      clear hp ht C hu hv M hlt
      go_wp2_with fail
      have HBB := Lib.hid (B.out.alloc (show B0 ≤ wr.heap.size from by have := Z.out.lt; omega) (.cells #[.int .i64 s, .int .i64 (dn : Int), .int .i64 z] 24) |>.setCell (p := ⟨B0 + 1, dn * 2, none⟩) (show B0 ≤ B0 + 1 by omega) (.int .i64 (u + 1)))
      have P1 := (Pl.new (w := wr) (p := (s, (dn : Int), z)) (T := 24) wr.heap.size rfl)
      have hltz := M1.out.lt
      have M2 := M1.out.set (dn * 2) (u + 1)
      have Z2 := (Z.out.alloc (.cells #[.int .i64 s, .int .i64 (dn : Int), .int .i64 z] 24)).setOther (c := B0 + 1) (by omega) (dn * 2) (.int .i64 (u + 1))
      have hne : (⟨wr.heap.size, 1, none⟩ : Addr) ≠ ⟨B0 + 1, dn * 2, none⟩ := fun e => by have := congrArg Addr.block e; simp at this; have := M1.out.lt; have := Z.out.lt; have := B.out.size; have hq := HM0.out; omega
      have hne2 : (⟨wr.heap.size, 2, none⟩ : Addr) ≠ ⟨B0 + 1, dn * 2, none⟩ := fun e => by have := congrArg Addr.block e; simp at this; have hq := HM0.out; omega
      have q1 := (World.cell?_setCell_other (wr.alloc (.cells #[.int .i64 s, .int .i64 (dn : Int), .int .i64 z] 24)) (⟨B0 + 1, dn * 2, none⟩ : Addr) (⟨wr.heap.size, 1, none⟩ : Addr) (.int .i64 (u + 1)) hne.symm).trans P1.c1
      have q2 := (World.cell?_setCell_other (wr.alloc (.cells #[.int .i64 s, .int .i64 (dn : Int), .int .i64 z] 24)) (⟨B0 + 1, dn * 2, none⟩ : Addr) (⟨wr.heap.size, 2, none⟩ : Addr) (.int .i64 (u + 1)) hne2.symm).trans P1.c2
      clear hne hne2 P1 m0 f0 c0 c1 c2
      obtain ⟨wq, hwq⟩ : ∃ wq, wq = (wr.alloc (.cells #[.int .i64 s, .int .i64 (dn : Int), .int .i64 z] 24)).setCell ⟨B0 + 1, dn * 2, none⟩ (.int .i64 (u + 1)) := ⟨_, rfl⟩
      rw [← hwq] at HBB M2 Z2 q1 q2 ⊢
      have m1 := M2.cell (dn * 2 + 1) (by rw [List.length_set, tl_len]; omega)
      have f1 := M2.frozen (dn * 2 + 1)
      rw [List.getD_eq_getElem?_getD, List.getElem?_set, if_neg (by omega), ← List.getD_eq_getElem?_getD, tl_odd _ _ (by omega), ← HV.out] at m1
      have HM2 := Lib.hid M2
      have HZ2 := Lib.hid Z2
      have w1 : IntKind.i64.wrap (v + z) = v + z := IntWalk.i64_in _ (by omega)
      clear hwq M2 Z2 HB0 Z B M1
      go_region
      have HM3 := Lib.hid (HM2.out.set (dn * 2 + 1) (v + z)).drew
      have HZ3 := Lib.hid (HZ2.out.setOther (c := B0 + 1) (by omega) (dn * 2 + 1) (.int .i64 (v + z))).drew
      have HB3 := Lib.hid (HBB.out.setCell (p := ⟨B0 + 1, dn * 2 + 1, none⟩) (show B0 ≤ B0 + 1 by omega) (.int .i64 (v + z))).drew
      have E := Lib.hid (tl_snoc (l.take k) (s, (dn : Int), z) dn (by omega) rfl)
      clear q1 q2 m1 f1 w1
      go_wp2_with fail
      go_roundw
      case rel => exact ⟨k + 1, by have := HLT.out; omega, by go_num, HZ3, Lib.hid (by rw [HT.out, ← E.out, ← HU.out, ← HV.out]; exact HM3.out), HB3⟩
      case measure => have := HLT.out; simp [intOf]; omega
    · obtain rfl : k = L := by omega
      have hm := M.out
      rw [HL.out, List.take_length] at hm
      have hi : (Try.prog.info? 54).map (·.size) = some ((tl l).map (Value.int .i64)).toArray.size := by
        rw [List.size_toArray, List.length_map, tl_len]; kernel_rfl
      have hz : ((tl []).map (Value.int .i64)).toArray.size = ((tl l).map (Value.int .i64)).toArray.size := by simp [tl_len]
      have ho : ((tl l).map (Value.int .i64)).toArray.all (·.oneCell') = true := by simp; exact fun x _ => rfl
      go_upto_region 8 with fail
      refine wp_region_lit ?_
      refine wpList_load_row rfl _ _ rfl (B0 + 1) rfl _ _ (0, 0) _ hm Try.underlying54 rfl hi ?_
      refine wpList_store_row rfl _ _ _ rfl B0 _ _ _ rfl rfl Z.out hi hz ho ?_
      refine wpList_nil ?_
      have Z2 := Z.out.row (tl l)
      have HBF := Lib.hid (below_setRow B.out (g := B0) (Nat.le_refl _) ((tl l).map (Value.int .i64)).toArray)
      generalize wr.setRow B0 ((tl l).map (Value.int .i64)).toArray = wz at Z2 HBF ⊢
      have HZ2 := Lib.hid Z2
      have HI := Lib.hid hi
      clear hz ho hm Z2 hi
      rename_i hK
      show Exit.then _ _ .normal _ _
      simp only [Exit.then]
      refine hK _ _ ?_
      refine wp_ret ?_
      refine bodyPost_ret (results_cell_row rfl _ wz B0 _ _ (0, 0) _ rfl HZ2.out Try.underlying54 rfl HI.out) rfl ?_
      exact ⟨rfl, by rw [← HB0.out]; exact HBF.out⟩
end Go.Proofs.Ytbnlaopmmgoalaa
