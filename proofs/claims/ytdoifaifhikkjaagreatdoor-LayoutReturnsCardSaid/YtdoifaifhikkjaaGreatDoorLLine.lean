/-
  Stage 9: the laws' line and fan.
-/
import Derived.Test.YtdoifaifhikkjaaGreatDoorLDec
import Derived.Test.YtdoifaifhikkjaaGreatDoorLRead
set_option linter.unusedSimpArgs false
set_option linter.unusedVariables false
namespace Go.Proofs.YtdoifaifhikkjaaGreatDoor
open Go.RowKit Go.Lib

theorem heap_newR (w : World) (o : Obj) : (w.alloc o).heap[w.heap.size]? = some o := by
  show (w.heap.push _)[w.heap.size]? = _
  rw [Array.getElem?_push, if_pos rfl]
theorem ROwn.laid {α : Type} (R : Rec α) {T : TypeId} (w : World) (base : Nat) (hb : base ≤ w.heap.size) (l : List α) (n : Nat) (hn : l.length = n) (hm : n ≤ 1000) : ROwn R T (w.alloc (.cells (R.flat l).toArray T)) base (.slice (some ⟨w.heap.size, 0, none⟩) n n) l := by
  subst hn
  have hl : (R.flat l).length = l.length * R.m := flatR_len R l
  refine ⟨hl, Or.inr ⟨w.heap.size, l.length, (R.flat l).toArray, rfl, hb, heap_newR w _, Nat.le_refl _, by unfold maxLen; omega, by rw [List.size_toArray]; exact hl, ?_⟩⟩
  show List.take (l.length * R.m) (R.flat l) = R.flat l
  exact List.take_of_length_le (by omega)
theorem run_lit1E {ρ : Operand → Value} {o : Oper} {s : Operand} {x : El} (hop : o.op = .buildSlice 23 1 #[(0, s)]) (hs : ρ s = aggE x) (w : World) :
    (execOp ρ o).run Tryz.prog w = .ok (.value (.slice (some ⟨w.heap.size, 0, none⟩) 1 1)) (w.alloc (.cells #[.int .i64 x.kind, .string x.name, .int .i64 x.par, .int .i64 x.side, .int .i64 x.len, .int .i64 x.gra, .int .i64 x.cur, .int .i64 x.pow] 39)) := by
  unfold execOp
  rw [hop]
  simp only [hs]
  go_simp
theorem wpList_lit1E (w : World) {ops : Array Oper} {rest : List Oper} {o : Oper} {a : Act} {Q : Exit → Act → World → Prop} (hg : o.guard = none) (s : Operand) (ho : o.op = .buildSlice 23 1 #[(0, s)]) (x : El) (hs : a.eval s = aggE x)
    (h : wpList Tryz.prog ops Q rest (a.put o.dst (.slice (some ⟨w.heap.size, 0, none⟩) 1 1)) (w.alloc (.cells #[.int .i64 x.kind, .string x.name, .int .i64 x.par, .int .i64 x.side, .int .i64 x.len, .int .i64 x.gra, .int .i64 x.cur, .int .i64 x.pow] 39))) : wpList Tryz.prog ops Q (o :: rest) a w := by
  have hrun := run_lit1E (ρ := a.eval) ho hs w
  refine wpList_wanted (by unfold Region.wanted; rw [hg]) ?_
  intro K hK
  unfold Oper.wp
  simp only [hrun]
  exact hK _ _ h
def crestE : El := ⟨0, ⟨#[99]⟩, -1, 0, 0, 0, 0, 0⟩
def nmD (c : UInt8) (i : Nat) : ByteArray := bs [c] ++ bs (Lib.decDigits i)
def lnX (n i : Nat) : El := ⟨if i = n then 4 else 1, nmD 115 i, i, 0, 1000000, -10000, 5000, 0⟩
def lnP (n k : Nat) : List El := crestE :: (List.range k).map (lnX n)
theorem lnP_snoc (n k : Nat) : lnP n (k + 1) = lnP n k ++ [lnX n k] := by unfold lnP; rw [List.range_succ, List.map_append]; rfl
theorem lnP_len (n k : Nat) : (lnP n k).length = k + 1 := by unfold lnP; simp
theorem dec_len {i : Nat} (h : i ≤ 1000) : (Lib.decDigits i).length ≤ 20 := by rw [Lib.decDigits_length]; exact Lib.nDigits_le20 i (by omega)
def atF (k : Nat) : Int := if k = 0 then 0 else 2 * (k : Int) - 1
def sdF (k : Nat) : Int := if k = 0 then 0 else 1
def fwX (k : Nat) : El := ⟨3, nmD 119 k, atF k, sdF k, 1, 0, 0, 0⟩
def ftX (k : Nat) : El := ⟨4, nmD 116 k, 2 * (k : Int) + 1, 2, 1, 0, 0, 0⟩
def fnP (k : Nat) : List El := crestE :: (List.range k).flatMap fun i => [fwX i, ftX i]
def fnH (k : Nat) : List El := fnP k ++ [fwX k]
def lastX (k : Nat) : El := ⟨4, ⟨#[108, 97, 115, 116]⟩, atF k, sdF k, 1, 0, 0, 0⟩
def fnL (n : Nat) : List El := fnP n ++ [lastX n]
theorem fnP_snoc (k : Nat) : fnP (k + 1) = fnH k ++ [ftX k] := by
  unfold fnH fnP
  rw [List.range_succ, List.flatMap_append]
  simp
theorem fnP_len (k : Nat) : (fnP k).length = 2 * k + 1 := by
  induction k with
  | zero => rfl
  | succ k ih => rw [fnP_snoc]; unfold fnH; rw [List.length_append, List.length_append, ih]; simp; omega
theorem fnH_len (k : Nat) : (fnH k).length = 2 * k + 2 := by unfold fnH; rw [List.length_append, fnP_len]; rfl
end Go.Proofs.YtdoifaifhikkjaaGreatDoor
