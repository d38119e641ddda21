/-
  Stage 11: lists in the order of the blocks are sorted; exchanged neighbours are not, unless their blocks are one.
-/
import Derived.Test.YthedalfokekbkaaJLaw
set_option linter.unusedSimpArgs false
set_option linter.unusedVariables false
namespace Go.Proofs.Ythedalfokekbkaa
open Go.RowKit Go.Lib

/-- What is seen behind a list. -/
def mark (s : List Bool) : List Nat → List Bool
  | [] => s
  | x :: p => mark (s.set x true) p
theorem mark_len (s : List Bool) (p : List Nat) : (mark s p).length = s.length := by
  induction p generalizing s with
  | nil => rfl
  | cons x p ih => show (mark (s.set x true) p).length = _; rw [ih, List.length_set]
theorem set_get (s : List Bool) (x j : Nat) (hx : x < s.length) : (s.set x true).getD j false = (s.getD j false || decide (j = x)) := by
  rw [List.getD_eq_getElem?_getD, List.getElem?_set]
  by_cases e : x = j
  · subst e; simp [hx]
  · rw [if_neg e, ← List.getD_eq_getElem?_getD]; simp [Ne.symm e]
theorem mark_get {s : List Bool} {p : List Nat} (hp : ∀ x ∈ p, x < s.length) (j : Nat) : (mark s p).getD j false = (s.getD j false || decide (j ∈ p)) := by
  induction p generalizing s with
  | nil => simp [mark]
  | cons x p ih =>
    show (mark (s.set x true) p).getD j false = _
    rw [ih (fun y hy => by rw [List.length_set]; exact hp y (List.mem_cons_of_mem _ hy)), set_get s x j (hp x (List.mem_cons_self ..))]
    by_cases h1 : j = x <;> by_cases h2 : j ∈ p <;> simp [h1, h2]
/-- A good list of train t. -/
structure Good (l : List It) (t : Int) (p : List Nat) : Prop where
  mem : ∀ x ∈ p, x < l.length ∧ trn l x = t
  asc : p.Pairwise fun x y => blk l x ≤ blk l y
  nod : p.Nodup
theorem goL_good {l : List It} {t : Int} {p : List Nat} (h : Good l t p) {prev : Option Int} {s : List Bool} (hs : s.length = l.length) (hf : ∀ x ∈ p, s.getD x false = false)
    (hp : ∀ y, prev = some y → ∀ x ∈ p, blk l y.toNat ≤ blk l x) : goL l t prev s (toZ p) = some (mark s p) := by
  induction p generalizing prev s with
  | nil => rfl
  | cons x p ih =>
    obtain ⟨hx, ht⟩ := h.mem x (List.mem_cons_self ..)
    have hnx := (List.nodup_cons.1 h.nod)
    have hax := (List.pairwise_cons.1 h.asc)
    have ok : stepOk l t prev s (x : Int) = true := by
      have h1 : btw (x : Int) 0 ((l.length : Int) - 1) = true := btw_iff.2 (by omega)
      have h2 : s.getD (x : Int).toNat false = false := hf x (List.mem_cons_self ..)
      have h3 : trn l (x : Int).toNat = t := ht
      cases prev with
      | none => exact step_first h1 h2 h3
      | some y =>
        rw [step_next h1 h2 h3]
        have h4 : blk l y.toNat ≤ blk l (x : Int).toNat := hp y rfl x (List.mem_cons_self ..)
        rw [decide_eq_false (by omega)]; rfl
    show goL l t prev s ((x : Int) :: toZ p) = _
    rw [goL_ok ok]
    show goL l t (some (x : Int)) (s.set x true) (toZ p) = some (mark (s.set x true) p)
    refine ih ⟨fun y hy => h.mem y (List.mem_cons_of_mem _ hy), hax.2, hnx.2⟩ (by rw [List.length_set]; exact hs) (fun y hy => ?_) (fun y hy z hz => ?_)
    · rw [set_get s x y (by rw [hs]; exact hx), hf y (List.mem_cons_of_mem _ hy)]
      have : y ≠ x := fun e => hnx.1 (e ▸ hy)
      simp [this]
    · injection hy with hy
      subst hy
      exact hax.1 z hz
/-- Two neighbours that fall. -/
theorem goL_fall {l : List It} {t : Int} {a b : Nat} {pre post : List Nat} (h : blk l a < blk l b) {prev : Option Int} {s : List Bool} : goL l t prev s (toZ (pre ++ b :: a :: post)) = none := by
  induction pre generalizing prev s with
  | nil =>
    show goL l t prev s ((b : Int) :: (a : Int) :: toZ post) = none
    cases h1 : stepOk l t prev s (b : Int) with
    | false => exact goL_no h1
    | true =>
      rw [goL_ok h1]
      refine goL_no ?_
      unfold stepOk
      have : decide (blk l (a : Int).toNat < blk l (b : Int).toNat) = true := decide_eq_true h
      show (_ && (!decide (blk l (a : Int).toNat < blk l (b : Int).toNat))) = false
      rw [this]; simp
  | cons x pre ih =>
    show goL l t prev s ((x : Int) :: toZ (pre ++ b :: a :: post)) = none
    cases h1 : stepOk l t prev s (x : Int) with
    | false => exact goL_no h1
    | true => rw [goL_ok h1]; exact ih
/-- What is seen behind the lists. -/
def markT (s : List Bool) : List (List Nat) → List Bool
  | [] => s
  | p :: r => markT (mark s p) r
theorem goT_good {l : List It} {ts : List (List Nat)} : ∀ (t : Int) (s : List Bool), (∀ (k : Nat) p, ts[k]? = some p → Good l (t + k) p ∧ ∀ x ∈ p, s.getD x false = false) → s.length = l.length → goT l t s (ts.map toZ) = some (markT s ts) := by
  induction ts with
  | nil => intro t s _ _; rfl
  | cons p r ih =>
    intro t s h hs
    obtain ⟨g, hf⟩ := h 0 p rfl
    have g' : Good l t p := by have := g; rwa [show t + ((0 : Nat) : Int) = t by omega] at this
    have e := goL_good g' hs hf (prev := none) (fun y hy => by cases hy)
    show goT l t s (toZ p :: r.map toZ) = some (markT (mark s p) r)
    rw [goT_ok e]
    refine ih (t + 1) (mark s p) (fun k q hq => ?_) (by rw [mark_len]; exact hs)
    obtain ⟨g2, hf2⟩ := h (k + 1) q hq
    have e2 : t + ((k + 1 : Nat) : Int) = t + 1 + (k : Int) := by omega
    rw [e2] at g2
    refine ⟨g2, fun x hx => ?_⟩
    rw [mark_get (fun y hy => by rw [hs]; exact (g'.mem y hy).1), hf2 x hx]
    have : x ∉ p := fun hxp => by
      have h1 := (g'.mem x hxp).2
      have h2 := (g2.mem x hx).2
      omega
    simp [this]
theorem goT_fall {l : List It} {ts : List (List Int)} {k : Nat} {q : List Int} (hq : ts[k]? = some q) (hn : ∀ t s, goL l t none s q = none) : ∀ (t : Int) (s : List Bool), goT l t s ts = none := by
  induction ts generalizing k with
  | nil => simp at hq
  | cons p r ih =>
    intro t s
    cases k with
    | zero =>
      injection hq with hq
      subst hq
      exact goT_no (hn t s)
    | succ k =>
      cases h1 : goL l t none s p with
      | none => exact goT_no h1
      | some s' => rw [goT_ok h1]; exact ih hq (t + 1) s'
theorem markT_get {ts : List (List Nat)} : ∀ (s : List Bool), (∀ p ∈ ts, ∀ x ∈ p, x < s.length) → ∀ j, (markT s ts).getD j false = (s.getD j false || decide (∃ p ∈ ts, j ∈ p)) := by
  induction ts with
  | nil => intro s _ j; simp [markT]
  | cons p r ih =>
    intro s h j
    show (markT (mark s p) r).getD j false = _
    rw [ih (mark s p) (fun q hq x hx => by rw [mark_len]; exact h q (List.mem_cons_of_mem _ hq) x hx) j, mark_get (h p (List.mem_cons_self ..))]
    rw [Bool.eq_iff_iff]
    simp only [Bool.or_eq_true, decide_eq_true_eq, List.mem_cons, exists_eq_or_imp]
    exact or_assoc
theorem markT_len (s : List Bool) (ts : List (List Nat)) : (markT s ts).length = s.length := by
  induction ts generalizing s with
  | nil => rfl
  | cons p r ih => show (markT (mark s p) r).length = _; rw [ih, mark_len]
/-- Good lists that hold each item are sorted. -/
theorem sorted_good {l : List It} {ts : List (List Nat)} (h : ∀ (k : Nat) p, ts[k]? = some p → Good l (k : Int) p) (hall : ∀ x, x < l.length → ∃ p ∈ ts, x ∈ p) : sortedB l (ts.map toZ) = true := by
  have hr : ∀ j, (List.replicate l.length false).getD j false = false := fun j => by
    rw [List.getD_eq_getElem?_getD, List.getElem?_replicate]; split <;> rfl
  have e := goT_good (l := l) (ts := ts) 0 (List.replicate l.length false) (fun k p hp => ⟨by rw [Int.zero_add]; exact h k p hp, fun x _ => hr x⟩) (by simp)
  rw [sortedB_some e]
  have hf : hasF (markT (List.replicate l.length false) ts) = false := by
    unfold hasF
    rw [Bool.eq_false_iff]
    intro hc
    rw [List.contains_iff_mem] at hc
    obtain ⟨i, hi⟩ := List.mem_iff_getElem?.1 hc
    have hil := (List.getElem?_eq_some_iff.1 hi).1
    rw [markT_len, List.length_replicate] at hil
    have h1 := markT_get (ts := ts) (List.replicate l.length false) (fun p hp x hx => by
      obtain ⟨k, hk⟩ := List.mem_iff_getElem?.1 hp
      rw [List.length_replicate]
      exact ((h k p hk).mem x hx).1) i
    rw [List.getD_eq_getElem?_getD, hi, hr, decide_eq_true (hall i hil)] at h1
    cases h1
  rw [hf]; rfl
theorem sorted_fall {l : List It} {ts : List (List Int)} {k : Nat} {pre post : List Nat} {a b : Nat} (hq : ts[k]? = some (toZ (pre ++ b :: a :: post))) (h : blk l a < blk l b) : sortedB l ts = false :=
  sortedB_no (goT_fall hq (fun t s => goL_fall h) _ _)
/-- Two neighbours of one block exchanged. -/
theorem Good.swap {l : List It} {t : Int} {pre post : List Nat} {a b : Nat} (h : Good l t (pre ++ a :: b :: post)) (e : blk l a = blk l b) : Good l t (pre ++ b :: a :: post) := by
  have hp : (pre ++ b :: a :: post).Perm (pre ++ a :: b :: post) := List.Perm.append_left _ (List.Perm.swap ..)
  refine ⟨fun x hx => h.mem x (hp.mem_iff.1 hx), ?_, hp.nodup_iff.2 h.nod⟩
  have h1 := List.pairwise_append.1 h.asc
  have h2 := List.pairwise_cons.1 h1.2.1
  have h3 := List.pairwise_cons.1 h2.2
  refine List.pairwise_append.2 ⟨h1.1, List.pairwise_cons.2 ⟨fun y hy => ?_, List.pairwise_cons.2 ⟨fun y hy => ?_, h3.2⟩⟩, fun x hx y hy => ?_⟩
  · rcases List.mem_cons.1 hy with rfl | hy
    · omega
    · exact h3.1 y hy
  · have := h3.1 y hy; omega
  · refine h1.2.2 x hx y ?_
    rcases List.mem_cons.1 hy with rfl | hy
    · exact List.mem_cons_of_mem _ (List.mem_cons_self ..)
    · rcases List.mem_cons.1 hy with rfl | hy
      · exact List.mem_cons_self ..
      · exact List.mem_cons_of_mem _ (List.mem_cons_of_mem _ hy)
theorem Good.le {l : List It} {t : Int} {pre post : List Nat} {a b : Nat} (h : Good l t (pre ++ a :: b :: post)) : blk l a ≤ blk l b :=
  (List.pairwise_cons.1 (List.pairwise_append.1 h.asc).2.1).1 b (List.mem_cons_self ..)
/-- The indexes below k of block b of train t. -/
def blkL (l : List It) (t b : Int) (k : Nat) : List Nat := (List.range k).filter fun x => blk l x == b && trn l x == t
def accL (l : List It) (t : Int) : Nat → List Nat
  | 0 => []
  | b + 1 => accL l t b ++ blkL l t b l.length
theorem blkL_mem {l : List It} {t b : Int} {k x : Nat} : x ∈ blkL l t b k ↔ x < k ∧ blk l x = b ∧ trn l x = t := by
  unfold blkL; rw [List.mem_filter, List.mem_range, Bool.and_eq_true, beq_iff_eq, beq_iff_eq]
theorem accL_mem {l : List It} {t : Int} {b x : Nat} : x ∈ accL l t b ↔ x < l.length ∧ (0 ≤ blk l x ∧ blk l x < b) ∧ trn l x = t := by
  induction b with
  | zero => exact ⟨fun h => by simp [accL] at h, fun h => by omega⟩
  | succ b ih =>
    unfold accL
    rw [List.mem_append, ih, blkL_mem]
    constructor
    · rintro (⟨h1, h2, h3⟩ | ⟨h1, h2, h3⟩)
      · exact ⟨h1, by omega, h3⟩
      · exact ⟨h1, by omega, h3⟩
    · rintro ⟨h1, h2, h3⟩
      by_cases g : blk l x = (b : Int)
      · exact Or.inr ⟨h1, g, h3⟩
      · exact Or.inl ⟨h1, by omega, h3⟩
theorem accL_good (l : List It) (t : Int) (b : Nat) : Good l t (accL l t b) := by
  induction b with
  | zero => exact ⟨fun x hx => by simp [accL] at hx, List.Pairwise.nil, List.nodup_nil⟩
  | succ b ih =>
    refine ⟨fun x hx => ?_, ?_, ?_⟩
    · have := accL_mem.1 hx; exact ⟨this.1, this.2.2⟩
    · refine List.pairwise_append.2 ⟨ih.asc, ?_, fun x hx y hy => ?_⟩
      · refine (List.Pairwise.filter _ List.pairwise_lt_range).imp_of_mem fun {x y} hx hy _ => ?_
        have h1 := (blkL_mem.1 hx).2.1
        have h2 := (blkL_mem.1 hy).2.1
        omega
      · have h1 := accL_mem.1 hx
        have h2 := (blkL_mem.1 hy).2.1
        omega
    · refine List.nodup_append.2 ⟨ih.nod, List.Pairwise.filter _ List.nodup_range, fun x hx y hy => ?_⟩
      intro e
      subst e
      have h1 := accL_mem.1 hx
      have h2 := (blkL_mem.1 hy).2.1
      omega
theorem blkL_yes {l : List It} {t b : Int} {k : Nat} (h1 : blk l k = b) (h2 : trn l k = t) : blkL l t b (k + 1) = blkL l t b k ++ [k] := by
  unfold blkL; rw [List.range_succ, List.filter_append]; simp [h1, h2]
theorem blkL_no {l : List It} {t b : Int} {k : Nat} (h : ¬ (blk l k = b ∧ trn l k = t)) : blkL l t b (k + 1) = blkL l t b k := by
  unfold blkL; rw [List.range_succ, List.filter_append]
  have : (blk l k == b && trn l k == t) = false := by
    rw [Bool.and_eq_false_iff]
    by_cases g : blk l k = b
    · exact Or.inr (by simpa using fun e => h ⟨g, e⟩)
    · exact Or.inl (by simpa using g)
  simp [this]
theorem accL_len (l : List It) (t : Int) (b : Nat) : (accL l t b).length ≤ l.length := by
  have h := (accL_good l t b).nod
  have hs : (accL l t b) ⊆ List.range l.length := fun x hx => List.mem_range.2 (accL_mem.1 hx).1
  have := List.Nodup.length_le_of_subset h hs
  simpa using this
end Go.Proofs.Ythedalfokekbkaa
