/-
  Stage 10, plain: how a layout grows: its elements in order, the places that wait for one.
-/
import Derived.Test.YtdoifaifhikkjaaGreatDoorLEl
set_option linter.unusedSimpArgs false
set_option linter.unusedVariables false
namespace Go.Proofs.YtdoifaifhikkjaaGreatDoor
open Go.RowKit

/-- The name of element i. -/
def wrdB (i : Nat) : ByteArray := ⟨#[101, UInt8.ofNat (48 + i / 100 % 10), UInt8.ofNat (48 + i / 10 % 10), UInt8.ofNat (48 + i % 10)]⟩
theorem wrd_nmc (d : Nat) (h : d < 10) : nmc (UInt8.ofNat (48 + d)) = true := by
  unfold nmc
  rw [UInt8.toNat_ofNat']
  exact decide_eq_true (Or.inr (by omega))
theorem wrd_name (i : Nat) : nameS (wrdB i) = true := by
  have h1 := wrd_nmc (i / 100 % 10) (by omega)
  have h2 := wrd_nmc (i / 10 % 10) (by omega)
  have h3 := wrd_nmc (i % 10) (by omega)
  unfold nameS wrdB
  simp only [Bool.and_eq_true, decide_eq_true_eq]
  refine ⟨⟨by show 1 ≤ 4; omega, by show 4 ≤ 12; omega⟩, ?_⟩
  simp only [List.all_cons, List.all_nil, h1, h2, h3, show nmc 101 = true from by decide, Bool.and_self]
theorem wrd_size (i : Nat) : (wrdB i).size = 4 := rfl
theorem wrd_inj {i j : Nat} (hi : i < 1000) (hj : j < 1000) (h : wrdB i = wrdB j) : i = j := by
  unfold wrdB at h
  injection h with h
  have h' := congrArg Array.toList h
  simp only [List.cons.injEq, and_true, true_and] at h'
  obtain ⟨a, b, c⟩ := h'
  have e1 := congrArg UInt8.toNat a
  have e2 := congrArg UInt8.toNat b
  have e3 := congrArg UInt8.toNat c
  rw [UInt8.toNat_ofNat', UInt8.toNat_ofNat'] at e1 e2 e3
  omega
theorem vlE_snoc (seen l : List El) (x : El) : vlE seen (l ++ [x]) = if vlE seen l = 0 then stepE (seen ++ l) x else vlE seen l := by
  induction l generalizing seen with
  | nil =>
    show (if stepE seen x = 0 then vlE (seen ++ [x]) [] else stepE seen x) = _
    rw [List.append_nil]
    show (if stepE seen x = 0 then (0 : Int) else stepE seen x) = if (0 : Int) = 0 then _ else _
    rw [if_pos rfl]
    split
    · rename_i h; exact h.symm
    · rfl
  | cons y l ih =>
    by_cases hy : stepE seen y = 0
    · rw [List.cons_append, vlE_ok hy, vlE_ok hy, ih, List.append_assoc]; rfl
    · rw [List.cons_append, vlE_bad hy, vlE_bad hy, if_neg hy]
/-- The places behind element i. -/
def opnE (k : Int) (i : Nat) : List (Int × Int) := if k = 3 then [((i : Int), 1), ((i : Int), 2)] else if k = 4 then [] else [((i : Int), 0)]
def atP (O : List (Int × Int)) (i : Nat) : Nat := (O.filter fun p => decide (p.1 = (i : Int))).length
structure Lay (l : List El) (O : List (Int × Int)) : Prop where
  vl : vlE [] l = 0
  nm : l.map El.name = (List.range l.length).map wrdB
  nd : O.Nodup
  op : ∀ p ∈ O, 0 ≤ p.1 ∧ p.1 < l.length ∧ (l.getD p.1.toNat zeroE).kind ≠ 4 ∧ (p.2 ≠ 0 ↔ (l.getD p.1.toNat zeroE).kind = 3) ∧ ∀ x ∈ l, ¬ (x.par = p.1 ∧ x.side = p.2)
  kd : ∀ i, i < l.length → needK (l.getD i zeroE).kind = (kids l i : Int) + (atP O i : Int)
theorem soundE_kind {x : El} (h : soundE x = true) : x.kind = 0 ∨ x.kind = 1 ∨ x.kind = 2 ∨ x.kind = 3 ∨ x.kind = 4 := by
  unfold soundE at h
  by_cases g0 : x.kind = 0
  · omega
  · rw [if_neg g0] at h
    by_cases g2 : x.kind = 2
    · omega
    · rw [if_neg g2] at h
      by_cases g1 : x.kind = 1 ∨ x.kind = 3 ∨ x.kind = 4
      · omega
      · rw [if_neg g1] at h; cases h
theorem soundE_crest {x : El} (h : soundE x = true) (h0 : x.kind = 0) : x.par = -1 ∧ x.side = 0 := by
  unfold soundE at h
  rw [if_pos h0] at h
  simp at h
  exact ⟨h.2.1, h.2.2.1⟩
/-- What stands in a layout whose elements are in order. -/
theorem vl_at {l : List El} (h : vlE [] l = 0) {k : Nat} {x : El} (hk : l[k]? = some x) : soundE x = true ∧ (x.kind = 0 ↔ k = 0) ∧ x.name ∉ (l.take k).map El.name ∧ placeE x (l.take k) = 0 := by
  have hlt := (List.getElem?_eq_some_iff.1 hk).1
  have h1 := vlE_zero h hk
  rw [List.nil_append] at h1
  obtain ⟨a, b, c, d⟩ := stepE_parts h1
  rw [List.length_take] at b
  exact ⟨a, by omega, c, d⟩
theorem par_lt {l : List El} (h : vlE [] l = 0) {k : Nat} {x : El} (hk : l[k]? = some x) : (k = 0 ∧ x.par = -1 ∧ x.kind = 0 ∧ x.side = 0) ∨ (0 < k ∧ x.kind ≠ 0 ∧ 0 ≤ x.par ∧ x.par < (k : Int)) := by
  have hlt := (List.getElem?_eq_some_iff.1 hk).1
  obtain ⟨a, b, c, d⟩ := vl_at h hk
  by_cases h0 : x.kind = 0
  · exact Or.inl ⟨b.1 h0, (soundE_crest a h0).1, h0, (soundE_crest a h0).2⟩
  · obtain ⟨p1, p2, _⟩ := placeE_parts d h0
    rw [List.length_take] at p2
    exact Or.inr ⟨by omega, h0, p1, by omega⟩
theorem par_len {l : List El} (h : vlE [] l = 0) {x : El} (hx : x ∈ l) : x.par < (l.length : Int) := by
  obtain ⟨k, hk⟩ := List.mem_iff_getElem?.1 hx
  have hlt := (List.getElem?_eq_some_iff.1 hk).1
  rcases par_lt h hk with ⟨_, e, _⟩ | ⟨_, _, _, e⟩ <;> omega
theorem getD_appE {l : List El} {x : El} {i : Nat} (h : i < l.length) : (l ++ [x]).getD i zeroE = l.getD i zeroE := by
  rw [List.getD_eq_getElem?_getD, List.getElem?_append_left h, ← List.getD_eq_getElem?_getD]
theorem getD_lastE {l : List El} {x : El} : (l ++ [x]).getD l.length zeroE = x := by
  rw [List.getD_eq_getElem?_getD, List.getElem?_append_right (Nat.le_refl _)]; simp
theorem kids_zero {l : List El} (h : vlE [] l = 0) : kids l l.length = 0 := by
  unfold kids
  rw [List.length_eq_zero_iff, List.filter_eq_nil_iff]
  intro x hx
  have := par_len h hx
  have : x.par ≠ (l.length : Int) := by omega
  simp [this]
theorem atP_perm {O O' : List (Int × Int)} (h : O'.Perm O) (i : Nat) : atP O' i = atP O i := (h.filter _).length_eq
theorem atP_app (O O' : List (Int × Int)) (i : Nat) : atP (O ++ O') i = atP O i + atP O' i := by unfold atP; rw [List.filter_append, List.length_append]
theorem atP_cons (p : Int × Int) (O : List (Int × Int)) (i : Nat) : atP (p :: O) i = atP O i + if p.1 = (i : Int) then 1 else 0 := by
  unfold atP
  by_cases h : p.1 = (i : Int)
  · rw [List.filter_cons_of_pos (by simpa using h), if_pos h]; rfl
  · rw [List.filter_cons_of_neg (by simpa using h), if_neg h]; rfl
theorem atP_none {O : List (Int × Int)} {i : Nat} (h : ∀ p ∈ O, p.1 ≠ (i : Int)) : atP O i = 0 := by
  unfold atP
  rw [List.length_eq_zero_iff, List.filter_eq_nil_iff]
  intro p hp
  simpa using h p hp
theorem opn_mem {k : Int} {i : Nat} {p : Int × Int} (h : p ∈ opnE k i) : p.1 = (i : Int) ∧ k ≠ 4 ∧ (p.2 ≠ 0 ↔ k = 3) := by
  unfold opnE at h
  split at h
  · rename_i h3
    simp at h
    rcases h with rfl | rfl
    · exact ⟨rfl, by omega, by simp [h3]⟩
    · exact ⟨rfl, by omega, by simp [h3]⟩
  · rename_i h3
    split at h
    · simp at h
    · rename_i h4
      simp at h
      subst h
      exact ⟨rfl, h4, by simp [h3]⟩
theorem opn_nodup (k : Int) (i : Nat) : (opnE k i).Nodup := by
  unfold opnE
  split
  · simp
  · split <;> simp
theorem opn_atP (k : Int) (i : Nat) : (atP (opnE k i) i : Int) = needK k := by
  unfold opnE needK atP
  split
  · simp
  · split <;> simp
/-- An element is put at an open place. -/
theorem Lay.put {l : List El} {O : List (Int × Int)} {p : Int × Int} {x : El} (h : Lay l (p :: O)) (hx : soundE x = true) (h0 : x.kind ≠ 0) (hp : x.par = p.1) (hs : x.side = p.2) (hn : x.name = wrdB l.length) (hl : l.length < 1000)
    (O' : List (Int × Int)) (hO : O'.Perm (O ++ opnE x.kind l.length)) : Lay (l ++ [x]) O' := by
  obtain ⟨a1, a2, a3, a4, a5⟩ := h.op p (List.mem_cons_self ..)
  have hnd := List.nodup_cons.1 h.nd
  have hst : stepE l x = 0 := by
    unfold stepE
    rw [if_neg (by rintro (g | g); · rw [hx] at g; cases g
                   · exact g ⟨fun e => absurd e h0, fun e => by omega⟩)]
    rw [if_neg]
    · unfold placeE
      rw [if_neg h0, if_neg (by omega), if_neg]
      rintro (g | g | g)
      · rw [hp] at g; exact a3 g
      · rw [hp, hs] at g; exact g a4
      · unfold takenE at g
        obtain ⟨y, hy, e⟩ := List.any_eq_true.1 g
        simp at e
        exact a5 y hy ⟨e.1.trans hp, e.2.trans hs⟩
    · rw [h.nm, hn]
      intro hm
      obtain ⟨j, hj, e⟩ := List.mem_map.1 hm
      have hj' := List.mem_range.1 hj
      have := wrd_inj (by omega) hl e
      omega
  have hxl : x.par < (l.length : Int) := by omega
  refine ⟨?_, ?_, ?_, ?_, ?_⟩
  · rw [vlE_snoc, if_pos h.vl, List.nil_append]; exact hst
  · rw [List.map_append, h.nm, List.length_append, List.length_singleton, List.range_succ, List.map_append]
    simp [hn]
  · rw [hO.nodup_iff, List.nodup_append]
    refine ⟨hnd.2, opn_nodup _ _, fun u hu v hv e => ?_⟩
    subst e
    have := (h.op u (List.mem_cons_of_mem _ hu)).2.1
    have := (opn_mem hv).1
    omega
  · intro q hq
    rcases List.mem_append.1 (hO.mem_iff.1 hq) with hq | hq
    · obtain ⟨b1, b2, b3, b4, b5⟩ := h.op q (List.mem_cons_of_mem _ hq)
      rw [getD_appE (by omega)]
      refine ⟨b1, by rw [List.length_append]; simp; omega, b3, b4, fun y hy => ?_⟩
      rcases List.mem_append.1 hy with hy | hy
      · exact b5 y hy
      · rw [List.mem_singleton.1 hy, hp, hs]
        rintro ⟨e1, e2⟩
        have : p = q := Prod.ext e1 e2
        rw [this] at hnd
        exact hnd.1 hq
    · obtain ⟨b1, b2, b3⟩ := opn_mem hq
      have e : q.1.toNat = l.length := by omega
      rw [e, getD_lastE]
      refine ⟨by omega, by rw [List.length_append]; simp; omega, b2, b3, fun y hy => ?_⟩
      rintro ⟨e1, _⟩
      rcases List.mem_append.1 hy with hy | hy
      · have := par_len h.vl hy; omega
      · rw [List.mem_singleton.1 hy] at e1; omega
  · intro i hi
    rw [List.length_append, List.length_singleton] at hi
    rw [atP_perm hO, atP_app, kids_snoc]
    by_cases hil : i < l.length
    · have hk := h.kd i hil
      rw [atP_cons] at hk
      rw [getD_appE hil, hk, atP_none (O := opnE x.kind l.length) (fun q hq => by have := (opn_mem hq).1; omega)]
      by_cases hpi : p.1 = (i : Int)
      · rw [if_pos hpi, if_pos ⟨h0, by omega⟩]; omega
      · rw [if_neg hpi, if_neg (fun g => hpi (by omega))]; omega
    · obtain rfl : i = l.length := by omega
      rw [getD_lastE, kids_zero h.vl, if_neg (fun g => by omega), atP_none (O := O) (fun q hq => by have := (h.op q (List.mem_cons_of_mem _ hq)).2.1; omega), ← opn_atP x.kind l.length]
      simp
theorem Lay.first {x : El} (hx : soundE x = true) (h0 : x.kind = 0) (hn : x.name = wrdB 0) : Lay [x] [(0, 0)] := by
  have hc := soundE_crest hx h0
  have hst : stepE [] x = 0 := by
    unfold stepE
    rw [if_neg (by rintro (g | g); · rw [hx] at g; cases g
                   · exact g ⟨fun _ => rfl, fun _ => h0⟩), if_neg (by simp)]
    unfold placeE
    rw [if_pos h0]
  refine ⟨?_, by simp [hn, List.range_succ], by simp, ?_, ?_⟩
  · show vlE [] [x] = 0
    rw [vlE_ok hst]; rfl
  · intro p hp
    simp at hp
    subst hp
    refine ⟨Int.le_refl _, by show (0 : Int) < 1; decide, ?_, ?_, ?_⟩
    · show x.kind ≠ 4; omega
    · show ((0 : Int) ≠ 0 ↔ x.kind = 3); omega
    · intro y hy
      simp at hy
      subst hy
      rintro ⟨e, _⟩
      omega
  · intro i hi
    have : i = 0 := by simpa using hi
    subst this
    show needK x.kind = _
    rw [h0]
    have hk : kids [x] 0 = 0 := by simp [kids, h0]
    rw [hk]
    decide
theorem full_all {l : List El} (h : ∀ i, i < l.length → needK (l.getD i zeroE).kind ≤ (kids l i : Int)) : ∀ n, n ≤ l.length → fullE l n = true
  | 0, _ => rfl
  | n + 1, hn => by
    show (fullE l n && decide _) = true
    rw [full_all h n (by omega), decide_eq_true (h n (by omega))]; rfl
/-- Nothing waits: a layout. -/
theorem Lay.valid {l : List El} (h : Lay l []) (h0 : l.length ≠ 0) (h1 : l.length ≤ 128) (h2 : trks l ≤ 32) : validE l = 0 := by
  unfold validE
  rw [if_neg (by omega), if_neg h0, if_pos h.vl]
  unfold treeE
  rw [full_all (fun i hi => by rw [h.kd i hi]; show _ ≤ _; simp [atP]) _ (Nat.le_refl _), if_neg (by simp), if_neg (by omega)]
end Go.Proofs.YtdoifaifhikkjaaGreatDoor
