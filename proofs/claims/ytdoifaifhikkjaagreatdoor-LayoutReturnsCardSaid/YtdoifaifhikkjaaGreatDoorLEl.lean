/-
  Stage 9, plain: an element of a layout, how it lies in memory, and the first error of a layout.
-/
import Derived.Test.YtdoifaifhikkjaaGreatDoorRec
set_option linter.unusedSimpArgs false
set_option linter.unusedVariables false
namespace Go.Proofs.YtdoifaifhikkjaaGreatDoor
open Go.RowKit

structure El where
  kind : Int
  name : ByteArray
  par : Int
  side : Int
  len : Int
  gra : Int
  cur : Int
  pow : Int
deriving DecidableEq
def cellsE (x : El) : List Value := [.int .i64 x.kind, .string x.name, .int .i64 x.par, .int .i64 x.side, .int .i64 x.len, .int .i64 x.gra, .int .i64 x.cur, .int .i64 x.pow]
abbrev aggE (x : El) : Value := .agg #[.int .i64 x.kind, .string x.name, .int .i64 x.par, .int .i64 x.side, .int .i64 x.len, .int .i64 x.gra, .int .i64 x.cur, .int .i64 x.pow]
def ER : Rec El := ⟨8, by decide, cellsE, fun _ => rfl, fun x u hu => by
  simp only [cellsE, List.mem_cons, List.not_mem_nil, or_false] at hu
  rcases hu with h | h | h | h | h | h | h | h <;> subst h <;> rfl⟩
/-- The cells of element k of a slice, spelt as the walks ask for them. -/
structure ESpelt (w : World) (ad : Addr) (x : El) : Prop where
  c0 : w.cell? ad = some (.int .i64 x.kind)
  c1 : w.cell? ⟨ad.block, ad.off + 1, none⟩ = some (.string x.name)
  c2 : w.cell? ⟨ad.block, ad.off + 2, none⟩ = some (.int .i64 x.par)
  c3 : w.cell? ⟨ad.block, ad.off + 3, none⟩ = some (.int .i64 x.side)
  c4 : w.cell? ⟨ad.block, ad.off + 4, none⟩ = some (.int .i64 x.len)
  c5 : w.cell? ⟨ad.block, ad.off + 5, none⟩ = some (.int .i64 x.gra)
  c6 : w.cell? ⟨ad.block, ad.off + 6, none⟩ = some (.int .i64 x.cur)
  c7 : w.cell? ⟨ad.block, ad.off + 7, none⟩ = some (.int .i64 x.pow)
theorem ESpelt.of {w : World} {ad : Addr} {k : Nat} {x : El} (h : RCel ER w ad k x) : ESpelt w (ad.add (k * 8)) x :=
  ⟨h.first (R := ER) rfl, h.next (R := ER) 1 (by decide) rfl, h.next (R := ER) 2 (by decide) rfl, h.next (R := ER) 3 (by decide) rfl, h.next (R := ER) 4 (by decide) rfl, h.next (R := ER) 5 (by decide) rfl, h.next (R := ER) 6 (by decide) rfl, h.next (R := ER) 7 (by decide) rfl⟩
/-- The cells of a block that holds an element. -/
structure EBlk (w : World) (b : Nat) (x : El) : Prop where
  c0 : w.cell? ⟨b, 0, none⟩ = some (.int .i64 x.kind)
  c1 : w.cell? ⟨b, 1, none⟩ = some (.string x.name)
  c2 : w.cell? ⟨b, 2, none⟩ = some (.int .i64 x.par)
  c3 : w.cell? ⟨b, 3, none⟩ = some (.int .i64 x.side)
  c4 : w.cell? ⟨b, 4, none⟩ = some (.int .i64 x.len)
  c5 : w.cell? ⟨b, 5, none⟩ = some (.int .i64 x.gra)
  c6 : w.cell? ⟨b, 6, none⟩ = some (.int .i64 x.cur)
  c7 : w.cell? ⟨b, 7, none⟩ = some (.int .i64 x.pow)
  lt : b < w.heap.size
theorem EBlk.of {w : World} {b : Nat} {x : El} (h : RBlk ER w b x) : EBlk w b x :=
  ⟨h.cs 0 _ rfl, h.cs 1 _ rfl, h.cs 2 _ rfl, h.cs 3 _ rfl, h.cs 4 _ rfl, h.cs 5 _ rfl, h.cs 6 _ rfl, h.cs 7 _ rfl, h.lt⟩
theorem newE (w : World) (x : El) (T : TypeId) (b : Nat) (hb : b = w.heap.size) : RBlk ER (w.alloc (.cells #[.int .i64 x.kind, .string x.name, .int .i64 x.par, .int .i64 x.side, .int .i64 x.len, .int .i64 x.gra, .int .i64 x.cur, .int .i64 x.pow] T)) b x := RBlk.new (R := ER) b hb

theorem take_snocB (s : ByteArray) (k : Nat) (h : k < s.size) : s.data.toList.take (k + 1) = s.data.toList.take k ++ [s[k]] := by
  rw [List.take_succ_eq_append_getElem (by simpa using h)]; rfl
/-- A byte of a name; a name. -/
def nmc (c : UInt8) : Bool := decide ((97 ≤ c.toNat ∧ c.toNat ≤ 122) ∨ (48 ≤ c.toNat ∧ c.toNat ≤ 57))
def nameS (s : ByteArray) : Bool := decide (1 ≤ s.size ∧ s.size ≤ 12) && s.data.toList.all nmc
theorem nm_snoc (s : ByteArray) (k : Nat) (h : k < s.size) : (s.data.toList.take (k + 1)).all nmc = ((s.data.toList.take k).all nmc && nmc s[k]) := by
  rw [take_snocB s k h, List.all_append]; simp
theorem nm_take (s : ByteArray) (k : Nat) (h : (s.data.toList.take k).all nmc = false) : s.data.toList.all nmc = false := by
  have : s.data.toList.all nmc = ((s.data.toList.take k).all nmc && (s.data.toList.drop k).all nmc) := by rw [← List.all_append, List.take_append_drop]
  rw [this, h]; rfl
instance memDec (a : ByteArray) (l : List ByteArray) : Decidable (a ∈ l) := decidable_of_iff (∃ t ∈ l, t = a) ⟨fun ⟨t, h, e⟩ => e ▸ h, fun h => ⟨a, h, rfl⟩⟩

/-- What all kinds but the crest share. -/
def rngE (x : El) : Prop := 1 ≤ x.len ∧ x.len ≤ 1000000 ∧ -10000 ≤ x.gra ∧ x.gra ≤ 10000 ∧ 0 ≤ x.cur ∧ x.cur ≤ 5000 ∧ 0 ≤ x.side ∧ x.side ≤ 2
instance (x : El) : Decidable (rngE x) := by unfold rngE; infer_instance
def behE (x : El) : Bool := nameS x.name && decide (rngE x)
def soundE (x : El) : Bool :=
  if x.kind = 0 then nameS x.name && decide (x.par = -1 ∧ x.side = 0 ∧ x.len = 0 ∧ x.gra = 0 ∧ x.cur = 0 ∧ x.pow = 0)
  else if x.kind = 2 then behE x && decide (1 ≤ x.pow ∧ x.pow ≤ 1000000000)
  else if x.kind = 1 ∨ x.kind = 3 ∨ x.kind = 4 then behE x && decide (x.pow = 0) else false
def zeroE : El := ⟨0, ⟨#[]⟩, 0, 0, 0, 0, 0, 0⟩
instance : Inhabited El := ⟨zeroE⟩
def takenE (x : El) (l : List El) : Bool := l.any fun o => decide (o.par = x.par) && decide (o.side = x.side)
/-- The first error of the place of x among the elements l. -/
def placeE (x : El) (l : List El) : Int :=
  if x.kind = 0 then 0 else if x.par < 0 ∨ (l.length : Int) ≤ x.par then 12
  else if (l.getD x.par.toNat zeroE).kind = 4 ∨ ¬ (x.side ≠ 0 ↔ (l.getD x.par.toNat zeroE).kind = 3) ∨ takenE x l = true then 17 else 0
def stepE (seen : List El) (x : El) : Int :=
  if soundE x = false ∨ ¬ (x.kind = 0 ↔ seen.length = 0) then 1 else if x.name ∈ seen.map El.name then 8 else placeE x seen
def vlE (seen : List El) : List El → Int
  | [] => 0
  | x :: l => if stepE seen x = 0 then vlE (seen ++ [x]) l else stepE seen x
/-- How many elements of l name element i as their parent. -/
def kids (l : List El) (i : Nat) : Nat := (l.filter fun x => !decide (x.kind = 0) && decide (x.par = (i : Int))).length
def needK (k : Int) : Int := if k = 3 then 2 else if k = 4 then 0 else 1
def trks (l : List El) : Nat := (l.filter fun x => decide (x.kind = 4)).length
/-- The elements before n have as many children as they need. -/
def fullE (l : List El) : Nat → Bool
  | 0 => true
  | n + 1 => fullE l n && decide (needK ((l.getD n zeroE).kind) ≤ (kids l n : Int))
def treeE (l : List El) : Int := if fullE l l.length = false then 13 else if 32 < trks l then 3 else 0
def validE (l : List El) : Int := if 128 < l.length then 3 else if l.length = 0 then 13 else if vlE [] l = 0 then treeE l else vlE [] l
theorem vlE_bad {seen : List El} {x : El} {l : List El} (h : stepE seen x ≠ 0) : vlE seen (x :: l) = stepE seen x := by
  show (if stepE seen x = 0 then _ else _) = _
  rw [if_neg h]
theorem vlE_ok {seen : List El} {x : El} {l : List El} (h : stepE seen x = 0) : vlE seen (x :: l) = vlE (seen ++ [x]) l := by
  show (if stepE seen x = 0 then _ else _) = _
  rw [if_pos h]
theorem drop_ex {l : List El} {k : Nat} (hk : k < l.length) : ∃ x, l[k]? = some x ∧ l.drop k = x :: l.drop (k + 1) ∧ l.take (k + 1) = l.take k ++ [x] :=
  ⟨l[k], List.getElem?_eq_getElem hk, List.drop_eq_getElem_cons hk, List.take_succ_eq_append_getElem hk⟩
/-- Of a layout whose elements are all in order. -/
theorem vlE_zero {seen l : List El} (h : vlE seen l = 0) {k : Nat} {x : El} (hk : l[k]? = some x) : stepE (seen ++ l.take k) x = 0 := by
  induction l generalizing seen k with
  | nil => simp at hk
  | cons y l ih =>
    by_cases hy : stepE seen y = 0
    · rw [vlE_ok hy] at h
      cases k with
      | zero => simp at hk; subst hk; simpa using hy
      | succ k =>
        have := ih h (k := k) (by simpa using hk)
        simpa using this
    · rw [vlE_bad hy] at h; exact absurd h hy
theorem stepE_parts {seen : List El} {x : El} (h : stepE seen x = 0) : soundE x = true ∧ (x.kind = 0 ↔ seen.length = 0) ∧ x.name ∉ seen.map El.name ∧ placeE x seen = 0 := by
  unfold stepE at h
  by_cases h1 : soundE x = false ∨ ¬ (x.kind = 0 ↔ seen.length = 0)
  · rw [if_pos h1] at h; cases h
  · rw [if_neg h1] at h
    by_cases h2 : x.name ∈ seen.map El.name
    · rw [if_pos h2] at h; cases h
    · rw [if_neg h2] at h
      refine ⟨?_, ?_, h2, h⟩
      · cases hs : soundE x
        · exact absurd (Or.inl hs) h1
        · rfl
      · exact Decidable.of_not_not fun g => h1 (Or.inr g)
theorem placeE_parts {x : El} {l : List El} (h : placeE x l = 0) (hk : x.kind ≠ 0) : 0 ≤ x.par ∧ x.par < l.length ∧ (l.getD x.par.toNat zeroE).kind ≠ 4 ∧ (x.side ≠ 0 ↔ (l.getD x.par.toNat zeroE).kind = 3) ∧ takenE x l = false := by
  unfold placeE at h
  rw [if_neg hk] at h
  by_cases h1 : x.par < 0 ∨ (l.length : Int) ≤ x.par
  · rw [if_pos h1] at h; cases h
  · rw [if_neg h1] at h
    by_cases h2 : (l.getD x.par.toNat zeroE).kind = 4 ∨ ¬ (x.side ≠ 0 ↔ (l.getD x.par.toNat zeroE).kind = 3) ∨ takenE x l = true
    · rw [if_pos h2] at h; cases h
    · refine ⟨by omega, by omega, fun g => h2 (Or.inl g), Decidable.of_not_not fun g => h2 (Or.inr (Or.inl g)), ?_⟩
      cases ht : takenE x l
      · rfl
      · exact absurd (Or.inr (Or.inr ht)) h2
theorem soundE_name {x : El} (h : soundE x = true) : nameS x.name = true := by
  unfold soundE behE at h
  split at h
  · simp at h; exact h.1
  · split at h
    · simp at h; exact h.1.1
    · split at h
      · simp at h; exact h.1.1
      · cases h
theorem nameS_size {s : ByteArray} (h : nameS s = true) : 1 ≤ s.size ∧ s.size ≤ 12 := by
  unfold nameS at h; simp at h; exact h.1
theorem kids_snoc (l : List El) (x : El) (i : Nat) : kids (l ++ [x]) i = kids l i + (if x.kind ≠ 0 ∧ x.par = (i : Int) then 1 else 0) := by
  unfold kids
  rw [List.filter_append, List.length_append]
  congr 1
  by_cases h : x.kind ≠ 0 ∧ x.par = (i : Int)
  · rw [if_pos h]; simp [h.1, h.2]
  · rw [if_neg h]
    have : (!decide (x.kind = 0) && decide (x.par = (i : Int))) = false := by
      by_cases h0 : x.kind = 0
      · simp [h0]
      · have : x.par ≠ (i : Int) := fun g => h ⟨h0, g⟩
        simp [this]
    simp [List.filter, this]
theorem trks_snoc (l : List El) (x : El) : trks (l ++ [x]) = trks l + (if x.kind = 4 then 1 else 0) := by
  unfold trks
  rw [List.filter_append, List.length_append]
  congr 1
  by_cases h : x.kind = 4
  · rw [if_pos h]; simp [h]
  · rw [if_neg h]; simp [h]
end Go.Proofs.YtdoifaifhikkjaaGreatDoor
