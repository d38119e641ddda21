/-
  Stage 9: the words of a line (the program's call of the library); strings.Clone; a reader in memory.
-/
import Derived.Test.YtdoifaifhikkjaaGreatDoorLPar
import Derived.Test.YtdoifaifhikkjaaGreatDoorLValid
import Derived.Test.YtdoifaifhikkjaaGreatDoorSrc
set_option linter.unusedSimpArgs false
set_option linter.unusedVariables false
namespace Go.Proofs.YtdoifaifhikkjaaGreatDoor
open Go.RowKit Go.Lib

def isSp (r : Nat) : Bool := r == 32
/-- The words of a line. -/
def wdsB (s : ByteArray) : List ByteArray := Lib.goFieldsP isSp s
theorem infoStr : (Tryz.prog.info? 9).map (fun i => (i.zero, i.size, i.bytes)) = some (some (.string ⟨#[]⟩), 1, 16) := by kernel_rfl
theorem infoSpan : (Tryz.prog.info? 94).map (fun i => (i.zero, i.size, i.bytes)) = some (some (.agg #[.int .i64 0, .int .i64 0]), 2, 16) := by kernel_rfl
set_option maxHeartbeats 400000 in
theorem sp_pred (w : World) : PredAt Tryz.prog 30 #[] encR isSp w := fun W r _ => by
  unfold FnGives
  by_cases h : r = 32
  · subst h
    go_enter Tryz.func30, Tryz.ntmps30
    go_wp2
    go_ret
    exact ⟨rfl, 0, rfl⟩
  · have hq : ((r : Int) == 32) = false := beq_eq_false_iff_ne.2 (by omega)
    have HQ := Lib.hid (show isSp r = false from beq_eq_false_iff_ne.2 h)
    clear h
    go_enter Tryz.func30, Tryz.ntmps30
    go_wp2
    go_ret
    exact ⟨ret_bool HQ.out.symm, 0, rfl⟩
theorem words_any (s : ByteArray) (w : World) (hs : s.size ≤ 4294967296) :
    Calls Tryz.prog 29 #[.string s, .func (.func 30) #[] #[]] w fun e w' => ∃ g, e = .returned (.slice (some ⟨g, 0, none⟩) (wdsB s).length (wdsB s).length) ∧ w.heap.size ≤ g ∧ SRow w' (some ⟨g, 0, none⟩) (wdsB s) ∧ Below w.heap.size w w' := by
  have h := Any.strings_FieldsFunc fieldsF 30 #[] (enters_of Tryz.func30 (by kernel_rfl) rfl) isSp s w hs (sp_pred w) infoSpan infoStr
  change Calls Tryz.prog 29 _ _ _ at h
  refine h.mono ?_
  rintro e w' ⟨g, rfl, hg, own, bel⟩
  refine ⟨g, rfl, hg, ⟨fun j u hj => ?_, ?_⟩, bel⟩
  · have hlt : j < (wdsB s).length := by
      have := (List.getElem?_eq_some_iff.1 hj).1
      simpa using this
    have hb : g < w'.heap.size := by
      rcases own.2 with ⟨e, _⟩ | ⟨g', cap, cur, e, _, e3, _⟩
      · cases e
      · have : g' = g := by simp at e; omega
        subst this
        exact (Array.getElem?_eq_some_iff.1 e3).1
    refine ⟨_, rfl, hb, ?_⟩
    rw [add_own]
    have := World.ownsRow.cellAt own j (by unfold wdsB at hlt; simpa using hlt)
    rw [this]
    exact hj
  · rcases own.2 with ⟨e, _⟩ | ⟨g', cap, cur, e, _, e3, e4, e5, _⟩
    · cases e
    · simp at e
      show (Lib.goFieldsP isSp s).length ≤ maxLen
      omega
theorem clone_any (s : ByteArray) (w : World) (hs : s.size ≤ 281474976710656) :
    Calls Tryz.prog 34 #[.string s] w fun e w' => e = .returned (.string s) ∧ Below w.heap.size w w' := by
  have h := Any.stringslite_Clone cloneS s w hs
  change Calls Tryz.prog 49 _ _ _ at h
  go_enter Tryz.func34, Tryz.ntmps34
  go_wp2_with fail
  refine h.mono ?_
  rintro e w' ⟨rfl, hB⟩
  go_wp2_with fail
  go_ret
  exact ⟨rfl, hB⟩
theorem hash_any (s : ByteArray) (w : World) :
    Calls Tryz.prog 31 #[.string s, .string ⟨#[35]⟩] w fun e w' => e = .returned (.bool (Lib.hasPrefix s.data.toList [35])) ∧ w' = w :=
  Any.strings_HasPrefix hasP s ⟨#[35]⟩ w
theorem elemStr : Tryz.prog.elem 55 = 9 := by kernel_rfl
theorem sizeStr (w : World) : (Go.sizeOf 9).run Tryz.prog w = .ok 1 w := by kernel_rfl
theorem slice_strs (A : Option Addr) (L c m : Nat) (W : World) (hm : m ≤ L) (hc : L ≤ c) : (Instr.slice 55 (.slice A L c) (some (.int .i64 (m : Int))) none none).run Tryz.prog W = .ok (.slice (if c = m then A else A.map (·.add m)) (L - m) (c - m)) W := by
  rw [run_slice_l (P := Tryz.prog) W 55 A L c (by rw [elemStr]; exact Tryz.underlying55) .i64 (m : Int) (by omega) (by omega), elemStr, sizeStr]
  simp [Result.andThen, sliced]
theorem SRow.cut {w : World} {A : Option Addr} {ws : List ByteArray} (h : SRow w A ws) (n c : Nat) (hc : ws.length ≤ c) : SRow w (if c = n then A else A.map (·.add n)) (ws.drop n) := by
  refine ⟨?_, by rw [List.length_drop]; have := h.len; omega⟩
  by_cases g : c = n
  · rw [if_pos g, List.drop_eq_nil_of_le (by omega)]
    exact VRow.nil
  · rw [if_neg g]
    cases A with
    | none =>
      have hl : ws = [] := by
        cases ws with
        | nil => rfl
        | cons x l => obtain ⟨ad, e, _⟩ := h.at_ (k := 0) (s := x) rfl; cases e
      subst hl
      rw [List.drop_nil]; exact VRow.nil
    | some ad => rw [List.map_drop]; exact h.row.drop n

def isCom (ws : List ByteArray) : Bool := decide (ws.length = 0) || Lib.hasPrefix (ws.getD 0 ⟨#[]⟩).data.toList [35]
abbrev nth (ws : List ByteArray) (j : Nat) : ByteArray := ws.getD j ⟨#[]⟩
abbrev tailN (ws : List ByteArray) (k : Nat) : List ByteArray := ws.drop (ws.length - nlK k)
def elC (ws : List ByteArray) (k : Nat) : El := ⟨k, nth ws 1, -1, 0, numsR (tailN ws k) 0, numsR (tailN ws k) 1, numsR (tailN ws k) 2, numsR (tailN ws k) 3⟩
def elP (ws : List ByteArray) (k : Nat) (p : Int × Int × Bool) : El := ⟨k, nth ws 1, p.1, p.2.1, numsR (tailN ws k) 0, numsR (tailN ws k) 1, numsR (tailN ws k) 2, numsR (tailN ws k) 3⟩
/-- What a line of words ws says: an error, or an element, or nothing. -/
def lineE (f : Idx) (ws : List ByteArray) : Int × Option El :=
  if isCom ws = true then (0, none)
  else match kindI (nth ws 0).data.toList with
  | none => (6, none)
  | some k =>
    if wlK k ≠ ws.length then (6, none)
    else if numsE (tailN ws k) ≠ 0 then (numsE (tailN ws k), none)
    else if nameS (nth ws 1) = false then (7, none)
    else if k = 0 then (0, some (elC ws 0))
    else if (parV f (nth ws 2).data.toList).2.2 = false then (7, none)
    else (0, some (elP ws k (parV f (nth ws 2).data.toList)))
def nextI (f : Idx) (n : Nat) : Option El → Idx
  | none => f
  | some x => updI f x.name n
/-- A reader: its list, its map. -/
structure Rdr (w : World) (base b mb nm : Nat) (v : Value) (es : List El) (f : Idx) : Prop where
  c0 : w.cell? ⟨b, 0, none⟩ = some v
  c1 : w.cell? ⟨b, 1, none⟩ = some (.map (some mb))
  fz : w.frozen? ⟨b, 0, none⟩ = false
  own : ROwn ER 39 w base v es
  idx : IMap w mb nm f
  ne : v.ownBlock ≠ some b
  nm' : v.ownBlock ≠ some mb
theorem Rdr.lt {w : World} {base b mb nm : Nat} {v : Value} {es : List El} {f : Idx} (h : Rdr w base b mb nm v es f) : b < w.heap.size := lt_of_cell h.c0
theorem Rdr.below {w w' : World} {base b mb nm : Nat} {v : Value} {es : List El} {f : Idx} (h : Rdr w base b mb nm v es f) (k : Below w.heap.size w w') : Rdr w' base b mb nm v es f :=
  ⟨(k.cell (p := ⟨b, 0, none⟩) h.lt).trans h.c0, (k.cell (p := ⟨b, 1, none⟩) h.lt).trans h.c1, (k.frozen (p := ⟨b, 0, none⟩) h.lt).trans h.fz, h.own.below k, h.idx.below k, h.ne, h.nm'⟩
/-- Of what lies below base, only the reader and its map have turned. -/
structure KeepB (base b mb : Nat) (w w' : World) : Prop where
  os : w'.os = w.os
  tape : w'.tape = w.tape
  output : w'.output = w.output
  size : w.heap.size ≤ w'.heap.size
  block : ∀ q, q < base → q ≠ b → q ≠ mb → w'.heap[q]? = w.heap[q]?
theorem KeepB.of {base b mb : Nat} {w w' : World} (h : Below w.heap.size w w') (hb : base ≤ w.heap.size) : KeepB base b mb w w' := ⟨h.os, h.tape, h.output, h.size, fun q hq _ _ => h.block q (by omega)⟩
theorem KeepB.trans {base b mb : Nat} {w w' w'' : World} (h : KeepB base b mb w w') (k : KeepB base b mb w' w'') : KeepB base b mb w w'' := ⟨k.os.trans h.os, k.tape.trans h.tape, k.output.trans h.output, Nat.le_trans h.size k.size, fun q hq h1 h2 => (k.block q hq h1 h2).trans (h.block q hq h1 h2)⟩
theorem KeepB.grown {base b mb : Nat} {w w' : World} {row : Option Nat} (g : w.grownBy w' row) (hb : base ≤ w.heap.size) (hr : ∀ j, row = some j → j = mb ∨ j = b ∨ base ≤ j) : KeepB base b mb w w' := ⟨g.os, g.tape, g.output, g.size, fun q hq h1 h2 => g.block q (by omega) (fun e => by rcases hr q e.symm with h | h | h; exact h2 h; exact h1 h; omega)⟩
theorem KeepB.below {base b mb B : Nat} {w w' : World} (h : KeepB base b mb w w') (h1 : B ≤ base) (h2 : B ≤ b) (h3 : B ≤ mb) : Below B w w' := ⟨h.os, h.tape, h.output, h.size, fun q hq => h.block q (by omega) (by omega) (by omega)⟩
theorem SRow.keepB {base b mb : Nat} {w w' : World} {g : Nat} {ws : List ByteArray} (h : SRow w (some ⟨g, 0, none⟩) ws) (k : KeepB base b mb w w') (hg : g < base) (h1 : g ≠ b) (h2 : g ≠ mb) : SRow w' (some ⟨g, 0, none⟩) ws := by
  refine ⟨fun j u hj => ?_, h.len⟩
  obtain ⟨ad, e, hb, hc⟩ := h.row j u hj
  injection e with e
  subst e
  refine ⟨_, rfl, Nat.lt_of_lt_of_le hb k.size, ?_⟩
  rw [World.cell?_of_block (w := w) (by rw [add_block]; exact k.block g hg h1 h2)]; exact hc
end Go.Proofs.YtdoifaifhikkjaaGreatDoor
