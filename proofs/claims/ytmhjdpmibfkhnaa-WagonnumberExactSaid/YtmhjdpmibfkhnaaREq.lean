/-
  Stage 2: the reference's list of repairs is the program's; what is in it.
-/
import Derived.Test.YtmhjdpmibfkhnaaRRep
set_option linter.unusedSimpArgs false
set_option linter.unusedVariables false
namespace Go.Proofs.Ytmhjdpmibfkhnaa
open Go.RowKit

theorem mem_innR {s x : ByteArray} {i n : Nat} {acc : List ByteArray} : x ∈ innR s i acc n ↔ x ∈ acc ∨ ∃ k, k < n ∧ 48 + k ≠ (bt s i).toNat ∧ okP (rep1 s i k) = true ∧ x = rep1 s i k := by
  induction n with
  | zero => rw [innR_zero]; constructor
            · exact Or.inl
            · rintro (h | ⟨k, h, _⟩)
              · exact h
              · omega
  | succ n ih =>
    rw [innR_succ]
    unfold stepR
    constructor
    · intro h
      split at h
      · rename_i c
        rcases mem_insS.1 h with rfl | h
        · exact Or.inr ⟨n, by omega, c.1, c.2, rfl⟩
        · rcases ih.1 h with h | ⟨k, h1, h2⟩
          · exact Or.inl h
          · exact Or.inr ⟨k, by omega, h2⟩
      · rcases ih.1 h with h | ⟨k, h1, h2⟩
        · exact Or.inl h
        · exact Or.inr ⟨k, by omega, h2⟩
    · intro h
      have g : x ∈ innR s i acc n ∨ (48 + n ≠ (bt s i).toNat ∧ okP (rep1 s i n) = true ∧ x = rep1 s i n) := by
        rcases h with h | ⟨k, h1, h2⟩
        · exact Or.inl (ih.2 (Or.inl h))
        · by_cases e : k = n
          · subst e; exact Or.inr h2
          · exact Or.inl (ih.2 (Or.inr ⟨k, by omega, h2⟩))
      split
      · rcases g with g | g
        · exact mem_insS.2 (Or.inr g)
        · exact mem_insS.2 (Or.inl g.2.2)
      · rename_i c
        rcases g with g | g
        · exact g
        · exact absurd ⟨g.1, g.2.1⟩ c
theorem asc_innR {s : ByteArray} {i n : Nat} {acc : List ByteArray} (h : Asc acc) : Asc (innR s i acc n) := by
  induction n with
  | zero => exact h
  | succ n ih =>
    rw [innR_succ]; unfold stepR; split
    · exact asc_insS ih
    · exact ih
theorem mem_excR {s x : ByteArray} {i : Nat} {acc : List ByteArray} : x ∈ excR s i acc ↔ x ∈ acc ∨ (i < 11 ∧ (bt s i).toNat ≠ (bt s (i + 1)).toNat ∧ okP (exc1 s i) = true ∧ x = exc1 s i) := by
  unfold excR
  split
  · rename_i c
    rw [mem_insS]
    constructor
    · rintro (rfl | h)
      · exact Or.inr ⟨c.1, c.2.1, c.2.2, rfl⟩
      · exact Or.inl h
    · rintro (h | h)
      · exact Or.inr h
      · exact Or.inl h.2.2.2
  · rename_i c
    constructor
    · exact Or.inl
    · rintro (h | h)
      · exact h
      · exact absurd ⟨h.1, h.2.1, h.2.2.1⟩ c
theorem asc_excR {s : ByteArray} {i : Nat} {acc : List ByteArray} (h : Asc acc) : Asc (excR s i acc) := by
  unfold excR; split
  · exact asc_insS h
  · exact h
theorem mem_outR {s x : ByteArray} {n : Nat} : x ∈ outR s n ↔ (∃ i k, i < n ∧ k < 10 ∧ 48 + k ≠ (bt s i).toNat ∧ okP (rep1 s i k) = true ∧ x = rep1 s i k) ∨ ∃ i, i < n ∧ i < 11 ∧ (bt s i).toNat ≠ (bt s (i + 1)).toNat ∧ okP (exc1 s i) = true ∧ x = exc1 s i := by
  induction n with
  | zero =>
    constructor
    · intro h; cases h
    · rintro (⟨i, k, h, _⟩ | ⟨i, h, _⟩) <;> omega
  | succ n ih =>
    rw [outR_succ, mem_excR, mem_innR, ih]
    constructor
    · rintro (((⟨i, k, h1, h2⟩ | ⟨i, h1, h2⟩) | ⟨k, h2⟩) | h2)
      · exact Or.inl ⟨i, k, by omega, h2⟩
      · exact Or.inr ⟨i, by omega, h2⟩
      · exact Or.inl ⟨n, k, by omega, h2⟩
      · exact Or.inr ⟨n, by omega, h2⟩
    · rintro (⟨i, k, h1, h2⟩ | ⟨i, h1, h2⟩)
      · by_cases e : i = n
        · subst e; exact Or.inl (Or.inr ⟨k, h2⟩)
        · exact Or.inl (Or.inl (Or.inl ⟨i, k, by omega, h2⟩))
      · by_cases e : i = n
        · subst e; exact Or.inr h2
        · exact Or.inl (Or.inl (Or.inr ⟨i, by omega, h2⟩))
theorem asc_outR (s : ByteArray) (n : Nat) : Asc (outR s n) := by
  induction n with
  | zero => exact List.Pairwise.nil
  | succ n ih => rw [outR_succ]; exact asc_excR (asc_innR ih)

theorem mem_repL {s x : ByteArray} : x ∈ repL s ↔ (∃ i k, i < 12 ∧ k < 10 ∧ 48 + k ≠ (bt s i).toNat ∧ okP (rep1 s i k) = true ∧ x = rep1 s i k) ∨ ∃ i, i < 12 ∧ i < 11 ∧ (bt s i).toNat ≠ (bt s (i + 1)).toNat ∧ okP (exc1 s i) = true ∧ x = exc1 s i := by
  unfold repL allL
  rw [List.mem_filter, List.mem_append, mem_reps, mem_excs]
  constructor
  · rintro ⟨⟨i, k, h1, h2, h3, rfl⟩ | ⟨i, h1, h2, rfl⟩, h⟩
    · exact Or.inl ⟨i, k, h1, h2, h3, h, rfl⟩
    · exact Or.inr ⟨i, by omega, h1, h2, h, rfl⟩
  · rintro (⟨i, k, h1, h2, h3, h, rfl⟩ | ⟨i, _, h1, h2, h, rfl⟩)
    · exact ⟨Or.inl ⟨i, k, h1, h2, h3, rfl⟩, h⟩
    · exact ⟨Or.inr ⟨i, h1, h2, rfl⟩, h⟩
theorem repL_nodup {s : ByteArray} (h : s.size = 12) : (repL s).Nodup := List.Pairwise.filter _ (all_nodup h)

theorem srt_perm (L : List ByteArray) : (srt L).Perm (L.map fun x => x.data.toList) := List.mergeSort_perm _ _
theorem mem_srtB {L : List ByteArray} {x : ByteArray} : x ∈ srtB L ↔ x ∈ L := by
  unfold srtB
  rw [List.mem_map]
  constructor
  · rintro ⟨l, h, rfl⟩
    obtain ⟨y, hy, rfl⟩ := List.mem_map.1 ((srt_perm L).mem_iff.1 h)
    exact hy
  · intro h
    exact ⟨x.data.toList, (srt_perm L).mem_iff.2 (List.mem_map.2 ⟨x, h, rfl⟩), rfl⟩
theorem asc_srtB {L : List ByteArray} (h : L.Nodup) : Asc (srtB L) := by
  have tr : ∀ a b c : List UInt8, decide (a ≤ b) = true → decide (b ≤ c) = true → decide (a ≤ c) = true := fun a b c h1 h2 => by simp only [decide_eq_true_eq] at *; exact List.le_trans h1 h2
  have tot : ∀ a b : List UInt8, (decide (a ≤ b) || decide (b ≤ a)) = true := fun a b => by simp only [Bool.or_eq_true, decide_eq_true_eq]; exact List.le_total a b
  have p1 : (srt L).Pairwise fun a b => decide (a ≤ b) = true := List.pairwise_mergeSort tr tot _
  have p2 : (srt L).Nodup := (srt_perm L).nodup_iff.2 (List.pairwise_map.2 (h.imp fun {a b} g e => g (bytes_ext e)))
  unfold Asc srtB
  rw [List.pairwise_map]
  refine (List.Pairwise.and p1 p2).imp fun {a b} g => ?_
  have g1 := of_decide_eq_true g.1
  by_cases c : a < b
  · simpa using c
  · exact absurd (List.le_antisymm g1 (List.not_lt.1 c)) g.2
theorem asc_nodup {L : List ByteArray} (h : Asc L) : L.Nodup := h.imp fun {a b} g e => by subst e; exact List.lt_irrefl _ g
theorem asc_eq {L M : List ByteArray} (h : Asc L) (k : Asc M) (e : ∀ x, x ∈ L ↔ x ∈ M) : L = M := by
  refine List.Perm.eq_of_pairwise (le := fun a b : ByteArray => a.data.toList < b.data.toList) (fun a b _ _ h1 h2 => absurd (List.lt_trans h1 h2) (List.lt_irrefl _)) h k ?_
  exact (List.perm_ext_iff_of_nodup (asc_nodup h) (asc_nodup k)).2 e

theorem outR_eq {s : ByteArray} (h : s.size = 12) : outR s 12 = srtB (repL s) :=
  asc_eq (asc_outR s 12) (asc_srtB (repL_nodup h)) fun x => by rw [mem_outR, mem_srtB, mem_repL]

theorem rrepairs_any (s : ByteArray) (w : World) : Calls Try.prog 27 #[.string s] w (RepPost w.heap.size (repsP s) w) := by
  unfold repsP
  cases h : dgs s 12
  · exact rrepairs_bad s w h
  · have g := rrepairs_ok s w h
    rw [outR_eq (dgs_t h).1] at g
    exact g

end Go.Proofs.Ytmhjdpmibfkhnaa
