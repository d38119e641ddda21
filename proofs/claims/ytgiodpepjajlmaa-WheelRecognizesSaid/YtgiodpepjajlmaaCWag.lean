/-
  Stage 6, plain: a wagon, how it lies in memory, its first error, the first error of a list.
-/
import Derived.Test.YtgiodpepjajlmaaRec
import Derived.Test.YtgiodpepjajlmaaKind
import Derived.Test.YtgiodpepjajlmaaMkNumber
set_option linter.unusedSimpArgs false
set_option linter.unusedVariables false
namespace Go.Proofs.Ytgiodpepjajlmaa
open Go.RowKit

structure Wag where
  num : ByteArray
  len : Int
  axl : Int
  mas : Int
  brk : Int
  gds : Int
  gen : Bool
  dst : ByteArray
deriving DecidableEq
def cellsW (x : Wag) : List Value := [.string x.num, .int .i64 x.len, .int .i64 x.axl, .int .i64 x.mas, .int .i64 x.brk, .int .i64 x.gds, .bool x.gen, .string x.dst]
abbrev aggW (x : Wag) : Value := .agg #[.string x.num, .int .i64 x.len, .int .i64 x.axl, .int .i64 x.mas, .int .i64 x.brk, .int .i64 x.gds, .bool x.gen, .string x.dst]
def WR : Rec Wag := ⟨8, by decide, cellsW, fun _ => rfl, fun x u hu => by
  simp only [cellsW, List.mem_cons, List.not_mem_nil, or_false] at hu
  rcases hu with h | h | h | h | h | h | h | h <;> subst h <;> rfl⟩
/-- The cells of wagon k of a slice, spelt as the walks ask for them. -/
structure WSpelt (w : World) (ad : Addr) (x : Wag) : Prop where
  c0 : w.cell? ad = some (.string x.num)
  c1 : w.cell? ⟨ad.block, ad.off + 1, none⟩ = some (.int .i64 x.len)
  c2 : w.cell? ⟨ad.block, ad.off + 2, none⟩ = some (.int .i64 x.axl)
  c3 : w.cell? ⟨ad.block, ad.off + 3, none⟩ = some (.int .i64 x.mas)
  c4 : w.cell? ⟨ad.block, ad.off + 4, none⟩ = some (.int .i64 x.brk)
  c5 : w.cell? ⟨ad.block, ad.off + 5, none⟩ = some (.int .i64 x.gds)
  c6 : w.cell? ⟨ad.block, ad.off + 6, none⟩ = some (.bool x.gen)
  c7 : w.cell? ⟨ad.block, ad.off + 7, none⟩ = some (.string x.dst)
theorem WSpelt.of {w : World} {ad : Addr} {k : Nat} {x : Wag} (h : RCel WR w ad k x) : WSpelt w (ad.add (k * 8)) x :=
  ⟨h.first (R := WR) rfl, h.next (R := WR) 1 (by decide) rfl, h.next (R := WR) 2 (by decide) rfl, h.next (R := WR) 3 (by decide) rfl, h.next (R := WR) 4 (by decide) rfl, h.next (R := WR) 5 (by decide) rfl, h.next (R := WR) 6 (by decide) rfl, h.next (R := WR) 7 (by decide) rfl⟩
/-- The cells of a block that holds a wagon. -/
structure WBlk (w : World) (b : Nat) (x : Wag) : Prop where
  c0 : w.cell? ⟨b, 0, none⟩ = some (.string x.num)
  c1 : w.cell? ⟨b, 1, none⟩ = some (.int .i64 x.len)
  c2 : w.cell? ⟨b, 2, none⟩ = some (.int .i64 x.axl)
  c3 : w.cell? ⟨b, 3, none⟩ = some (.int .i64 x.mas)
  c4 : w.cell? ⟨b, 4, none⟩ = some (.int .i64 x.brk)
  c5 : w.cell? ⟨b, 5, none⟩ = some (.int .i64 x.gds)
  c6 : w.cell? ⟨b, 6, none⟩ = some (.bool x.gen)
  c7 : w.cell? ⟨b, 7, none⟩ = some (.string x.dst)
  lt : b < w.heap.size
theorem WBlk.of {w : World} {b : Nat} {x : Wag} (h : RBlk WR w b x) : WBlk w b x :=
  ⟨h.cs 0 _ rfl, h.cs 1 _ rfl, h.cs 2 _ rfl, h.cs 3 _ rfl, h.cs 4 _ rfl, h.cs 5 _ rfl, h.cs 6 _ rfl, h.cs 7 _ rfl, h.lt⟩
theorem newW (w : World) (x : Wag) (T : TypeId) (b : Nat) (hb : b = w.heap.size) : RBlk WR (w.alloc (.cells #[.string x.num, .int .i64 x.len, .int .i64 x.axl, .int .i64 x.mas, .int .i64 x.brk, .int .i64 x.gds, .bool x.gen, .string x.dst] T)) b x := RBlk.new (R := WR) (x := x) b hb

/-- A byte of a name; a name. -/
def nmc (c : UInt8) : Bool := decide ((97 ≤ c.toNat ∧ c.toNat ≤ 122) ∨ (48 ≤ c.toNat ∧ c.toNat ≤ 57))
def nameS (s : ByteArray) : Bool := decide (1 ≤ s.size ∧ s.size ≤ 12) && s.data.toList.all nmc
theorem nm_snoc (s : ByteArray) (k : Nat) (h : k < s.size) : (s.data.toList.take (k + 1)).all nmc = ((s.data.toList.take k).all nmc && nmc s[k]) := by
  rw [take_snoc s k h, List.all_append]; simp
theorem nm_take (s : ByteArray) (k : Nat) (h : (s.data.toList.take k).all nmc = false) : s.data.toList.all nmc = false := by
  have : s.data.toList.all nmc = ((s.data.toList.take k).all nmc && (s.data.toList.drop k).all nmc) := by rw [← List.all_append, List.take_append_drop]
  rw [this, h]; rfl
def axlK (k : Int) : Int := if k = 2 then 2 else if k = 3 then 6 else 4
def leastK (k : Int) : Int := if k = 3 then 120 else 80
def rngW (x : Wag) (k : Int) : Prop := leastK k ≤ x.len ∧ x.len ≤ 400 ∧ 50 ≤ x.mas ∧ x.mas ≤ 2000 ∧ 0 ≤ x.brk ∧ x.brk ≤ x.mas ∧ 0 ≤ x.gds ∧ x.gds ≤ 9
instance (x : Wag) (k : Int) : Decidable (rngW x k) := by unfold rngW; infer_instance
/-- The first error of a wagon of kind k. -/
def valK (x : Wag) (k : Int) : Int := if x.axl = axlK k then (if rngW x k then (if nameS x.dst = true then 0 else 7) else 2) else 1
def validW (x : Wag) : Int := if (kindR x.num).2 = 0 then valK x (kindR x.num).1 else (kindR x.num).2
instance memDec (a : ByteArray) (l : List ByteArray) : Decidable (a ∈ l) := decidable_of_iff (∃ t ∈ l, t = a) ⟨fun ⟨t, h, e⟩ => e ▸ h, fun h => ⟨a, h, rfl⟩⟩
/-- The first error of a list, behind some numbers. -/
def vl (seen : List ByteArray) : List Wag → Int
  | [] => 0
  | x :: l => if validW x = 0 then (if x.num ∈ seen then 8 else vl (seen ++ [x.num]) l) else validW x
def validL (l : List Wag) : Int := if 96 < l.length then 3 else vl [] l
theorem vl_bad {seen : List ByteArray} {x : Wag} {l : List Wag} (h : validW x ≠ 0) : vl seen (x :: l) = validW x := by
  show (if validW x = 0 then _ else _) = _
  rw [if_neg h]
theorem vl_dup {seen : List ByteArray} {x : Wag} {l : List Wag} (h : validW x = 0) (hd : x.num ∈ seen) : vl seen (x :: l) = 8 := by
  show (if validW x = 0 then (if x.num ∈ seen then 8 else _) else _) = _
  rw [if_pos h, if_pos hd]
theorem vl_ok {seen : List ByteArray} {x : Wag} {l : List Wag} (h : validW x = 0) (hd : x.num ∉ seen) : vl seen (x :: l) = vl (seen ++ [x.num]) l := by
  show (if validW x = 0 then (if x.num ∈ seen then 8 else _) else _) = _
  rw [if_pos h, if_neg hd]
theorem vl_zero {seen : List ByteArray} {l : List Wag} (h : vl seen l = 0) : (∀ x ∈ l, validW x = 0) ∧ (∀ x ∈ l, x.num ∉ seen) ∧ (l.map Wag.num).Nodup := by
  induction l generalizing seen with
  | nil => exact ⟨by simp, by simp, by simp⟩
  | cons x l ih =>
    by_cases hv : validW x = 0
    · by_cases hd : x.num ∈ seen
      · rw [vl_dup hv hd] at h; cases h
      · rw [vl_ok hv hd] at h
        obtain ⟨h1, h2, h3⟩ := ih h
        refine ⟨?_, ?_, ?_⟩
        · intro y hy
          rcases List.mem_cons.1 hy with rfl | hy
          · exact hv
          · exact h1 y hy
        · intro y hy
          rcases List.mem_cons.1 hy with rfl | hy
          · exact hd
          · exact fun g => h2 y hy (List.mem_append_left _ g)
        · rw [List.map_cons, List.nodup_cons]
          refine ⟨fun g => ?_, h3⟩
          obtain ⟨y, hy, e⟩ := List.mem_map.1 g
          exact h2 y hy (by rw [e]; simp)
    · rw [vl_bad hv] at h; exact absurd h hv
theorem vl_good {seen : List ByteArray} {l : List Wag} (h1 : ∀ x ∈ l, validW x = 0) (h2 : ∀ x ∈ l, x.num ∉ seen) (h3 : (l.map Wag.num).Nodup) : vl seen l = 0 := by
  induction l generalizing seen with
  | nil => rfl
  | cons x l ih =>
    rw [vl_ok (h1 x (by simp)) (h2 x (by simp))]
    rw [List.map_cons, List.nodup_cons] at h3
    refine ih (fun y hy => h1 y (by simp [hy])) (fun y hy g => ?_) h3.2
    rcases List.mem_append.1 g with g | g
    · exact h2 y (by simp [hy]) g
    · simp at g
      exact h3.1 (List.mem_map.2 ⟨y, hy, g⟩)
theorem validL_zero {l : List Wag} : validL l = 0 ↔ l.length ≤ 96 ∧ (∀ x ∈ l, validW x = 0) ∧ (l.map Wag.num).Nodup := by
  unfold validL
  by_cases h : 96 < l.length
  · rw [if_pos h]
    exact ⟨fun e => (by cases e), fun e => absurd e.1 (by omega)⟩
  · rw [if_neg h]
    refine ⟨fun e => ?_, fun e => vl_good e.2.1 (by simp) e.2.2⟩
    obtain ⟨h1, _, h3⟩ := vl_zero e
    exact ⟨by omega, h1, h3⟩
theorem drop_ex {l : List Wag} {k : Nat} (hk : k < l.length) : ∃ x, l[k]? = some x ∧ l.drop k = x :: l.drop (k + 1) ∧ l.take (k + 1) = l.take k ++ [x] :=
  ⟨l[k], List.getElem?_eq_getElem hk, List.drop_eq_getElem_cons hk, List.take_succ_eq_append_getElem hk⟩
/-- What is left of a list, behind the numbers of the first k. -/
def seenK (l : List Wag) (k : Nat) : List ByteArray := (l.take k).map Wag.num
theorem seenK_snoc {l : List Wag} {k : Nat} {x : Wag} (h : l.take (k + 1) = l.take k ++ [x]) : seenK l (k + 1) = seenK l k ++ [x.num] := by
  unfold seenK; rw [h, List.map_append]; rfl
theorem validW_parts {x : Wag} (h : validW x = 0) : validS x.num = 0 ∧ x.axl = axlK (knd (x.num.data.toList.getD 4 48)) ∧ rngW x (knd (x.num.data.toList.getD 4 48)) ∧ nameS x.dst = true := by
  unfold validW at h
  by_cases hv : validS x.num = 0
  · have e : kindR x.num = (knd (x.num.data.toList.getD 4 48), 0) := by unfold kindR; rw [if_pos hv]
    rw [e] at h
    simp only [if_true] at h
    unfold valK at h
    by_cases h1 : x.axl = axlK (knd (x.num.data.toList.getD 4 48))
    · rw [if_pos h1] at h
      by_cases h2 : rngW x (knd (x.num.data.toList.getD 4 48))
      · rw [if_pos h2] at h
        by_cases h3 : nameS x.dst = true
        · exact ⟨hv, h1, h2, h3⟩
        · rw [if_neg h3] at h; cases h
      · rw [if_neg h2] at h; cases h
    · rw [if_neg h1] at h; cases h
  · have e : kindR x.num = (0, validS x.num) := by unfold kindR; rw [if_neg hv]
    rw [e] at h
    simp only at h
    rw [if_neg hv] at h
    exact absurd h hv
theorem validW_of {x : Wag} (h0 : validS x.num = 0) (h1 : x.axl = axlK (knd (x.num.data.toList.getD 4 48))) (h2 : rngW x (knd (x.num.data.toList.getD 4 48))) (h3 : nameS x.dst = true) : validW x = 0 := by
  have e : kindR x.num = (knd (x.num.data.toList.getD 4 48), 0) := by unfold kindR; rw [if_pos h0]
  unfold validW valK
  rw [e]
  simp only [if_true]
  rw [if_pos h1, if_pos h2, if_pos h3]
end Go.Proofs.Ytgiodpepjajlmaa
