/-
  Stage 10, plain: the tracks beyond an element.
-/
import Derived.Test.YteeoecegpnmafaaDoorTTree
import Derived.Test.YteeoecegpnmafaaDoorTFn3
set_option linter.unusedSimpArgs false
set_option linter.unusedVariables false
namespace Go.Proofs.YteeoecegpnmafaaDoor
open Go.RowKit

theorem by_mem {l : List El} (hp : Par l) {i x : Int} (hi : 0 ≤ i) : x ∈ byZ l i ↔ 0 ≤ x ∧ x < l.length ∧ kindA l x = 4 ∧ i ∈ wayZ l x := by
  unfold byZ
  rw [idx_mem]
  constructor
  · rintro ⟨a, b, c⟩
    rw [Bool.and_eq_true] at c
    obtain ⟨c1, c2⟩ := c
    unfold isTrk at c1
    rw [decide_eq_true_eq, show ((x.toNat : Nat) : Int) = x by omega] at c1
    rw [show ((x.toNat : Nat) : Int) = x by omega] at c2
    exact ⟨a, b, c1, (on_mem hp b hi).1 c2⟩
  · rintro ⟨a, b, c, d⟩
    refine ⟨a, b, ?_⟩
    rw [Bool.and_eq_true]
    unfold isTrk
    rw [decide_eq_true_eq, show ((x.toNat : Nat) : Int) = x by omega]
    exact ⟨c, (on_mem hp b hi).2 d⟩
theorem idx_nodup (n : Nat) (p : Nat → Bool) : (idxZ n p).Nodup := by
  unfold idxZ
  have h : ((List.range n).filter p).Pairwise (· ≠ ·) := (List.nodup_range (n := n)).filter p
  show List.Pairwise (· ≠ ·) _
  rw [List.pairwise_map]
  exact h.imp (fun hab e => hab (by omega))
theorem memZ_is {bs : List Bool} {p : Nat → Bool} (h : ∀ x, x < bs.length → bs.getD x false = p x) : memZ bs = idxZ bs.length p := by
  unfold memZ idxZ
  congr 1
  exact List.filter_congr fun j hj => h j (List.mem_range.1 hj)
theorem memZ_more {bs : List Bool} {x : Nat} (hx : x < bs.length) (h : bs.getD x false = false) : (memZ (bs.set x true)).length = (memZ bs).length + 1 := by
  unfold memZ
  rw [List.length_map, List.length_map, List.length_set]
  obtain ⟨d, hd⟩ : ∃ d, bs.length = x + 1 + d := ⟨bs.length - (x + 1), by omega⟩
  rw [hd, show List.range (x + 1 + d) = List.range x ++ (x :: (List.range d).map (fun j => x + 1 + j)) by
    rw [List.range_add, List.range_succ, List.append_assoc]; rfl]
  rw [List.filter_append, List.filter_append]
  have g1 : (List.range x).filter (fun j => (bs.set x true).getD j false) = (List.range x).filter (fun j => bs.getD j false) := by
    refine List.filter_congr fun j hj => ?_
    have hj' := List.mem_range.1 hj
    rw [List.getD_eq_getElem?_getD, List.getElem?_set_ne (by omega), List.getD_eq_getElem?_getD]
  have g2 : ((List.range d).map (fun j => x + 1 + j)).filter (fun j => (bs.set x true).getD j false) = ((List.range d).map (fun j => x + 1 + j)).filter (fun j => bs.getD j false) := by
    refine List.filter_congr fun j hj => ?_
    obtain ⟨k, _, rfl⟩ := List.mem_map.1 hj
    rw [List.getD_eq_getElem?_getD, List.getElem?_set_ne (by omega), List.getD_eq_getElem?_getD]
  have g4 : (bs.set x true).getD x false = true := by rw [List.getD_eq_getElem?_getD, List.getElem?_set_self hx]; rfl
  rw [List.filter_cons_of_pos (by simpa using g4), List.filter_cons_of_neg (by rw [h]; simp), g1, g2, List.length_append, List.length_append, List.length_cons]
  omega
theorem way_pos {l : List El} (hp : Par l) {i : Int} (h1 : i < l.length) {m m' : Nat} {x : Int} (h : (wayZ l i)[m]? = some x) (h' : (wayZ l i)[m']? = some x) : m = m' := by
  have t1 := congrArg List.length ((way_take hp h1 h).trans (way_take hp h1 h').symm)
  have l1 := (List.getElem?_eq_some_iff.1 h).1
  have l2 := (List.getElem?_eq_some_iff.1 h').1
  rw [List.length_take, List.length_take] at t1
  omega
/-- A parent lies on the path, too. -/
theorem on_par {l : List El} (hp : Par l) {i : Int} (h1 : i < l.length) {c : Int} (h : c ∈ wayZ l i) (hc : 0 ≤ parA l c) : parA l c ∈ wayZ l i := by
  obtain ⟨m, hm⟩ := List.mem_iff_getElem?.1 h
  cases m with
  | zero =>
    have hb := way_bd hp h1 c h
    have := way_head hp (show 0 ≤ i by omega) h1
    rw [this] at hm
    injection hm with hm
    subst hm
    rcases hp 0 (by omega) (by omega) with ⟨_, e⟩ | ⟨e, _⟩ <;> omega
  | succ m => exact List.mem_of_getElem? (way_next hp h1 hm).1
/-- An element of a path that is not its end has a child on it. -/
theorem on_kid {l : List El} (hp : Par l) {i : Int} (h0 : 0 ≤ i) (h1 : i < l.length) {c : Int} (h : c ∈ wayZ l i) (hne : c ≠ i) : ∃ d ∈ wayZ l i, parA l d = c ∧ 0 ≤ d ∧ d < l.length := by
  obtain ⟨m, hm⟩ := List.mem_iff_getElem?.1 h
  have hl := way_last hp h0 h1
  have hlt := (List.getElem?_eq_some_iff.1 hm).1
  by_cases g : m + 1 < (wayZ l i).length
  · have hd := List.getElem?_eq_getElem g
    obtain ⟨e, f, f2, f3⟩ := way_next hp h1 hd
    rw [e] at hm
    injection hm with hm
    exact ⟨_, List.getElem_mem g, hm, by omega, f3⟩
  · have : m = (wayZ l i).length - 1 := by omega
    rw [← this, hm] at hl
    injection hl.2 with e
    exact absurd e hne
/-- It has one. -/
theorem on_one {l : List El} (hp : Par l) {i : Int} (h1 : i < l.length) {c d : Int} (hc : c ∈ wayZ l i) (hd : d ∈ wayZ l i) (h : parA l c = parA l d) (h0 : 0 ≤ parA l c) : c = d := by
  obtain ⟨m, hm⟩ := List.mem_iff_getElem?.1 hc
  obtain ⟨k, hk⟩ := List.mem_iff_getElem?.1 hd
  have zero : ∀ {z : Int}, (wayZ l i)[0]? = some z → parA l z = -1 := fun {z} hz => by
    have hb := way_bd hp h1 z (List.mem_of_getElem? hz)
    have := way_head hp (show 0 ≤ i by omega) h1
    rw [this] at hz
    injection hz with hz
    subst hz
    rcases hp 0 (by omega) (by omega) with ⟨_, e⟩ | ⟨e, _⟩ <;> omega
  cases m with
  | zero => have := zero hm; omega
  | succ m =>
    cases k with
    | zero => have := zero hk; omega
    | succ k =>
      have a := (way_next hp h1 hm).1
      have b := (way_next hp h1 hk).1
      rw [← h] at b
      have := way_pos hp h1 a b
      subst this
      rw [hm] at hk
      injection hk
theorem way_self {l : List El} (hp : Par l) {i : Int} (h0 : 0 ≤ i) (h1 : i < l.length) : i ∈ wayZ l i := by
  rw [wayZ_step hp h0 h1]; simp
/-- A track's path goes through no other track. -/
theorem trk_end {l : List El} (h : TreeP l) {i x : Int} (hx : 0 ≤ x) (hx1 : x < l.length) (hi : i ∈ wayZ l x) (hk : kindA l i = 4) : i = x := by
  refine Decidable.of_not_not fun hne => ?_
  obtain ⟨d, hd, e, f, f2⟩ := on_kid h.par hx hx1 hi hne
  have hb := way_bd h.par hx1 i hi
  rcases h.par d f f2 with ⟨a, b⟩ | ⟨a, b, c⟩
  · omega
  · exact (h.pk d a f2).1 (by rw [e]; exact hk)
theorem by_trk {l : List El} (h : TreeP l) {i : Int} (h0 : 0 ≤ i) (h1 : i < l.length) (hk : kindA l i = 4) : byZ l i = [i] := by
  have hm : ∀ x, x ∈ byZ l i ↔ x = i := fun x => by
    rw [by_mem h.par h0]
    constructor
    · rintro ⟨a, b, c, d⟩
      exact (trk_end h a b d hk).symm
    · rintro rfl
      exact ⟨h0, h1, hk, way_self h.par h0 h1⟩
  have hn : (byZ l i).Nodup := idx_nodup _ _
  match hb : byZ l i with
  | [] => have := (hm i).2 rfl; rw [hb] at this; cases this
  | [a] => rw [(hm a).1 (by rw [hb]; simp)]
  | a :: b :: r =>
    have e1 := (hm a).1 (by rw [hb]; simp)
    have e2 := (hm b).1 (by rw [hb]; simp)
    rw [hb] at hn
    rw [List.nodup_cons] at hn
    exact absurd (by rw [e1, e2]; simp) hn.1
theorem by_zero {l : List El} (h : TreeP l) : trkZ l = byZ l 0 := by
  unfold trkZ byZ idxZ
  congr 1
  refine List.filter_congr fun j hj => ?_
  have hj' := List.mem_range.1 hj
  have : (onZ l (j : Int)).getD (0 : Int).toNat false = true := (on_mem h.par (show (j : Int) < l.length by omega) (Int.le_refl 0)).2 (List.mem_of_getElem? (way_head h.par (by omega) (show (j : Int) < l.length by omega)))
  rw [this, Bool.and_true]
/-- Beyond each element is a track. -/
theorem by_ne {l : List El} (h : TreeP l) (hv : vlE [] l = 0) : ∀ (f : Nat) (i : Int), 0 ≤ i → i < l.length → ((l.length : Int) - i).toNat ≤ f → ∃ x, x ∈ byZ l i
  | 0, i, h0, h1, hf => by omega
  | f + 1, i, h0, h1, hf => by
    by_cases hk : kindA l i = 4
    · exact ⟨i, by rw [by_trk h h0 h1 hk]; simp⟩
    · have hkd := h.kid i h0 h1
      have hpos : 0 < kids l i.toNat := by
        unfold needK at hkd
        by_cases g3 : kindA l i = 3
        · rw [if_pos g3] at hkd; omega
        · rw [if_neg g3, if_neg hk] at hkd; omega
      unfold kids at hpos
      obtain ⟨x, hx⟩ := List.exists_mem_of_length_pos hpos
      obtain ⟨hx1, hx2⟩ := List.mem_filter.1 hx
      rw [Bool.and_eq_true, decide_eq_true_eq] at hx2
      obtain ⟨k, hkk⟩ := List.mem_iff_getElem?.1 hx1
      have hlt := (List.getElem?_eq_some_iff.1 hkk).1
      have e : parA l (k : Int) = i := by
        unfold parA
        rw [Int.toNat_natCast, List.getD_eq_getElem?_getD, hkk]
        show x.par = i
        omega
      have hb := h.par.bd (show (0 : Int) ≤ k by omega) (show (k : Int) < l.length by omega)
      obtain ⟨y, hy⟩ := by_ne h hv f (k : Int) (by omega) (by omega) (by omega)
      obtain ⟨a, b, c, d⟩ := (by_mem h.par (by omega)).1 hy
      exact ⟨y, (by_mem h.par h0).2 ⟨a, b, c, by rw [← e]; exact on_par h.par b d (by omega)⟩⟩
/-- What is marked when the children of i below C have been gone through. -/
def Mk10 (l : List El) (i : Int) (C x : Nat) : Prop := kindA l (x : Int) = 4 ∧ ∃ c : Nat, c < C ∧ parA l (c : Int) = i ∧ (c : Int) ∈ wayZ l (x : Int)
theorem mk_zero {l : List El} {i : Int} {x : Nat} : ¬ Mk10 l i 0 x := fun ⟨_, c, h, _⟩ => absurd h (by omega)
theorem mk_skip {l : List El} {i : Int} {C x : Nat} (h : parA l (C : Int) ≠ i) : Mk10 l i (C + 1) x ↔ Mk10 l i C x := by
  constructor
  · rintro ⟨a, c, b, e, f⟩
    by_cases g : c = C
    · subst g; exact absurd e h
    · exact ⟨a, c, by omega, e, f⟩
  · rintro ⟨a, c, b, e, f⟩
    exact ⟨a, c, by omega, e, f⟩
theorem mk_kid {l : List El} (hp : Par l) {i : Int} {C x : Nat} (hx : x < l.length) (h : parA l (C : Int) = i) : Mk10 l i (C + 1) x ↔ Mk10 l i C x ∨ (x : Int) ∈ byZ l (C : Int) := by
  rw [by_mem hp (by omega)]
  constructor
  · rintro ⟨a, c, b, e, f⟩
    by_cases g : c = C
    · subst g; exact Or.inr ⟨by omega, by omega, a, f⟩
    · exact Or.inl ⟨a, c, by omega, e, f⟩
  · rintro (⟨a, c, b, e, f⟩ | ⟨_, _, a, f⟩)
    · exact ⟨a, c, by omega, e, f⟩
    · exact ⟨a, C, by omega, h, f⟩
theorem mkd_new {l : List El} (hp : Par l) {i : Int} (hi : 0 ≤ i) {C : Nat} (h : parA l (C : Int) = i) {x : Nat} (hx : (x : Int) ∈ byZ l (C : Int)) : ¬ Mk10 l i C x := by
  obtain ⟨_, b, _, d⟩ := (by_mem hp (by omega)).1 hx
  rintro ⟨_, c, g, e, f⟩
  have := on_one hp b f d (e.trans h.symm) (by omega)
  omega
theorem mk_all {l : List El} (h : TreeP l) {i : Int} (h0 : 0 ≤ i) (h1 : i < l.length) (hk : kindA l i ≠ 4) {x : Nat} (hx : x < l.length) : Mk10 l i l.length x ↔ (x : Int) ∈ byZ l i := by
  rw [by_mem h.par h0]
  constructor
  · rintro ⟨a, c, b, e, f⟩
    exact ⟨by omega, by omega, a, by rw [← e]; exact on_par h.par (by omega) f (by omega)⟩
  · rintro ⟨_, _, c, d⟩
    obtain ⟨k, hd, e, f, f2⟩ := on_kid h.par (show (0 : Int) ≤ (x : Int) by omega) (by omega) d (fun g => hk (by rw [g]; exact c))
    exact ⟨c, k.toNat, by omega, by rw [show ((k.toNat : Nat) : Int) = k by omega]; exact e, by rw [show ((k.toNat : Nat) : Int) = k by omega]; exact hd⟩
end Go.Proofs.YteeoecegpnmafaaDoor
