/-
  Stage 16, plain: the order of the loads; the shortest track; the assignment step by step; counting loads and tracks.
-/
import Derived.Test.YtknkgcphamhjlaaAMath
import Derived.Test.YtknkgcphamhjlaaBase
set_option linter.unusedSimpArgs false
set_option linter.unusedVariables false
namespace Go.Proofs.Ytknkgcphamhjlaa
open Go.RowKit

abbrev ld (a : List Int) (x : Nat) : Int := a.getD x 0
def Rk (a : List Int) (x y : Nat) : Prop := ld a y < ld a x ∨ (ld a x = ld a y ∧ x < y)
theorem Rk.trans {a : List Int} {x y z : Nat} (h1 : Rk a x y) (h2 : Rk a y z) : Rk a x z := by
  unfold Rk at *; omega
theorem Rk.irr {a : List Int} {x : Nat} : ¬ Rk a x x := by unfold Rk; omega
def posL (a : List Int) : List Nat := (List.range a.length).filter fun x => decide (0 < ld a x)
theorem mem_posL {a : List Int} {x : Nat} : x ∈ posL a ↔ x < a.length ∧ 0 < ld a x := by unfold posL; simp
theorem posL_nodup (a : List Int) : (posL a).Nodup := List.Pairwise.filter _ List.nodup_range
structure IsOrd (a : List Int) (os : List Nat) : Prop where
  perm : os.Perm (posL a)
  asc : os.Pairwise (Rk a)
theorem IsOrd.uniq {a : List Int} {os os' : List Nat} (h : IsOrd a os) (h' : IsOrd a os') : os = os' :=
  List.Perm.eq_of_pairwise (le := Rk a) (fun x y _ _ h1 h2 => absurd (h1.trans h2) Rk.irr) h.asc h'.asc (h.perm.trans h'.perm.symm)
theorem IsOrd.mem {a : List Int} {os : List Nat} (h : IsOrd a os) {x : Nat} : x ∈ os ↔ x < a.length ∧ 0 < ld a x := h.perm.mem_iff.trans mem_posL
theorem IsOrd.nodup {a : List Int} {os : List Nat} (h : IsOrd a os) : os.Nodup := h.perm.nodup_iff.2 (posL_nodup a)
theorem IsOrd.at_ {a : List Int} {os : List Nat} (h : IsOrd a os) {k : Nat} (hk : k < os.length) : os.getD k 0 < a.length ∧ 0 < ld a (os.getD k 0) := by
  rw [List.getD_eq_getElem?_getD, List.getElem?_eq_getElem hk]
  exact h.mem.1 (List.getElem_mem hk)
theorem getD_ge {l : List Nat} {k : Nat} (h : k < l.length) : l.getD k 0 = l[k] := by simp [List.getD_eq_getElem?_getD, h]
theorem getD_inj {l : List Nat} (h : l.Nodup) {i j : Nat} (hi : i < l.length) (hj : j < l.length) (e : l.getD i 0 = l.getD j 0) : i = j := by
  rw [List.getD_eq_getElem?_getD, List.getElem?_eq_getElem hi, List.getD_eq_getElem?_getD, List.getElem?_eq_getElem hj] at e
  exact (List.getElem_inj h).1 e
theorem IsOrd.le {a : List Int} {os : List Nat} (h : IsOrd a os) {i j : Nat} (hij : i < j) (hj : j < os.length) : ld a (os.getD j 0) ≤ ld a (os.getD i 0) := by
  have := List.pairwise_iff_getElem.1 h.asc i j (by omega) hj hij
  rw [getD_ge hj, getD_ge (by omega : i < os.length)]
  unfold Rk at this
  omega
theorem IsOrd.before {a : List Int} {os : List Nat} (h : IsOrd a os) {i j : Nat} (hij : i < j) (hj : j < os.length) : Rk a (os.getD i 0) (os.getD j 0) := by
  have := List.pairwise_iff_getElem.1 h.asc i j (by omega) hj hij
  rw [getD_ge hj, getD_ge (by omega : i < os.length)]
  exact this
theorem IsOrd.len {a : List Int} {os : List Nat} (h : IsOrd a os) : os.length ≤ a.length := by
  rw [h.perm.length_eq]
  unfold posL
  exact Nat.le_trans (List.length_filter_le _ _) (by simp)
theorem exists_ord (a : List Int) : ∃ os, IsOrd a os := by
  have hs : (posL a).Pairwise (Cr (fun x y => decide (ld a y < ld a x)) (Rk a)) := by
    unfold posL
    refine List.Pairwise.filter _ (List.Pairwise.imp (fun {x y} h => ?_) (List.pairwise_lt_range (n := a.length)))
    unfold Cr Rk
    exact ⟨fun g => by have := of_decide_eq_true g; omega, fun g => by have := of_decide_eq_false g; omega⟩
  obtain ⟨z, z1, z2, _⟩ := insertion_list (R := Rk a) (fun x y z (h1 : Rk a x y) (h2 : Rk a y z) => h1.trans h2) [] (posL a) [] hs
  exact ⟨z, z1, z2⟩

/-- How many numbers of b are at least h. -/
def cF (b : List Int) (h : Int) : Nat := (List.range b.length).countP fun t => decide (h ≤ ld b t)
/-- .. among the first k. -/
def cK (b : List Int) (h : Int) (k : Nat) : Nat := (List.range k).countP fun t => decide (h ≤ ld b t)
theorem cK_succ (b : List Int) (h : Int) (k : Nat) : cK b h (k + 1) = cK b h k + if h ≤ ld b k then 1 else 0 := by
  unfold cK
  rw [List.range_succ, List.countP_append]
  by_cases g : h ≤ ld b k <;> simp [g]
theorem cK_le (b : List Int) (h : Int) (k : Nat) : cK b h k ≤ k := by
  unfold cK
  exact Nat.le_trans List.countP_le_length (by simp)
theorem map_range_ld (a : List Int) : (List.range a.length).map (ld a) = a := by
  refine List.ext_getElem? fun i => ?_
  by_cases h : i < a.length
  · simp [h]
  · simp [h]
theorem cF_list (a : List Int) (h : Int) : cF a h = a.countP fun z => decide (h ≤ z) := by
  conv => rhs; rw [← map_range_ld a]
  rw [List.countP_map]
  rfl
theorem countP_upd {p q : Nat → Bool} {y m : Nat} (hy : y < m) (h0 : p y = false) (h1 : q y = true) (h : ∀ t, t ≠ y → q t = p t) : (List.range m).countP q = (List.range m).countP p + 1 := by
  induction m with
  | zero => omega
  | succ m ih =>
    rw [List.range_succ, List.countP_append, List.countP_append]
    by_cases e : y = m
    · subst e
      have : (List.range y).countP q = (List.range y).countP p := List.countP_congr fun t ht => by rw [h t (by have := List.mem_range.1 ht; omega)]
      rw [this]
      simp [h0, h1]
    · rw [ih (by omega)]
      have : q m = p m := h m (by omega)
      simp [List.countP_cons, this]; omega
theorem countP_t {p : Nat → Bool} {n : Nat} (h : p n = true) : [n].countP p = 1 := by simp [h]
theorem countP_f {p : Nat → Bool} {n : Nat} (h : p n = false) : [n].countP p = 0 := by simp [h]
theorem countP_same {p q : Nat → Bool} {m : Nat} (h : ∀ t, t < m → q t = p t) : (List.range m).countP q = (List.range m).countP p :=
  List.countP_congr fun t ht => by rw [h t (List.mem_range.1 ht)]

def okF (lo : Int) (l : List Int) : Bool := l.all fun n => decide (lo ≤ n ∧ n ≤ 38400)
def valR (a b : List Int) : Int := if 32 < a.length ∨ 32 < b.length then 3 else if okF 0 a = true ∧ okF 1 b = true then 0 else 2
structure Vd (a b : List Int) : Prop where
  la : a.length ≤ 32
  lb : b.length ≤ 32
  oa : ∀ n ∈ a, 0 ≤ n ∧ n ≤ 38400
  ob : ∀ n ∈ b, 1 ≤ n ∧ n ≤ 38400
theorem okF_mem {lo : Int} {l : List Int} (h : okF lo l = true) : ∀ n ∈ l, lo ≤ n ∧ n ≤ 38400 := fun n hn => of_decide_eq_true (List.all_eq_true.1 h n hn)
theorem okF_of {lo : Int} {l : List Int} (h : ∀ n ∈ l, lo ≤ n ∧ n ≤ 38400) : okF lo l = true := List.all_eq_true.2 fun n hn => decide_eq_true (h n hn)
theorem vd_of {a b : List Int} (h : valR a b = 0) : Vd a b := by
  unfold valR at h
  split at h
  · cases h
  · split at h
    · rename_i h1 h2
      exact ⟨by omega, by omega, okF_mem h2.1, okF_mem h2.2⟩
    · cases h
theorem Vd.val {a b : List Int} (h : Vd a b) : valR a b = 0 := by
  unfold valR
  rw [if_neg (by have := h.la; have := h.lb; omega), if_pos ⟨okF_of h.oa, okF_of h.ob⟩]
theorem ld_mem {l : List Int} {k : Nat} (h : k < l.length) : ld l k ∈ l := by
  unfold ld; rw [List.getD_eq_getElem?_getD, List.getElem?_eq_getElem h]; exact List.getElem_mem _
theorem valR_cases (a b : List Int) : valR a b = 0 ∨ valR a b = 2 ∨ valR a b = 3 := by
  unfold valR; split
  · exact Or.inr (Or.inr rfl)
  · split
    · exact Or.inl rfl
    · exact Or.inr (Or.inl rfl)

/-- The first of the shortest tracks that are long enough and free, among the first k. -/
def bestZ (b : List Int) (tk : List Bool) (x : Int) : Nat → Int
  | 0 => -1
  | k + 1 => if ld b k < x ∨ tk.getD k false = true then bestZ b tk x k else if bestZ b tk x k = -1 ∨ ld b k < ld b (bestZ b tk x k).toNat then (k : Int) else bestZ b tk x k
theorem bestZ_spec (b : List Int) (tk : List Bool) (x : Int) : ∀ k, (bestZ b tk x k = -1 ∧ ∀ t, t < k → ld b t < x ∨ tk.getD t false = true) ∨ ∃ y : Nat, bestZ b tk x k = (y : Int) ∧ y < k ∧ x ≤ ld b y ∧ tk.getD y false = false
  | 0 => Or.inl ⟨rfl, fun t h => absurd h (Nat.not_lt_zero _)⟩
  | k + 1 => by
    have ih := bestZ_spec b tk x k
    unfold bestZ
    by_cases h : ld b k < x ∨ tk.getD k false = true
    · rw [if_pos h]
      rcases ih with ⟨h1, h2⟩ | ⟨y, h1, h2, h3, h4⟩
      · refine Or.inl ⟨h1, fun t ht => ?_⟩
        rcases Nat.lt_or_ge t k with g | g
        · exact h2 t g
        · have : t = k := by omega
          subst this; exact h
      · exact Or.inr ⟨y, h1, by omega, h3, h4⟩
    · rw [if_neg h]
      have g1 : x ≤ ld b k := Decidable.byContradiction fun g => h (Or.inl (by omega))
      have g2 : tk.getD k false = false := by
        cases hq : tk.getD k false with
        | false => rfl
        | true => exact absurd (Or.inr hq) h
      split
      · exact Or.inr ⟨k, rfl, by omega, g1, g2⟩
      · rename_i h5
        rcases ih with ⟨h1, h2⟩ | ⟨y, h1, h2, h3, h4⟩
        · exact absurd (Or.inl h1) h5
        · exact Or.inr ⟨y, h1, by omega, h3, h4⟩
/-- The marks and the assignment behind n loads. -/
def stM (a b : List Int) (os : List Nat) : Nat → List Bool × List Int
  | 0 => (List.replicate b.length false, List.replicate a.length (-1))
  | n + 1 => ((stM a b os n).1.set (bestZ b (stM a b os n).1 (ld a (os.getD n 0)) b.length).toNat true, (stM a b os n).2.set (os.getD n 0) (bestZ b (stM a b os n).1 (ld a (os.getD n 0)) b.length))
/-- The track of load n. -/
def yM (a b : List Int) (os : List Nat) (n : Nat) : Int := bestZ b (stM a b os n).1 (ld a (os.getD n 0)) b.length
theorem stM_succ (a b : List Int) (os : List Nat) (n : Nat) : stM a b os (n + 1) = ((stM a b os n).1.set (yM a b os n).toNat true, (stM a b os n).2.set (os.getD n 0) (yM a b os n)) := rfl
theorem stM_len (a b : List Int) (os : List Nat) : ∀ n, (stM a b os n).1.length = b.length ∧ (stM a b os n).2.length = a.length
  | 0 => by simp [stM]
  | n + 1 => by rw [stM_succ]; simp [stM_len a b os n]
def OkTo (a b : List Int) (os : List Nat) (n : Nat) : Prop := ∀ k, k < n → yM a b os k ≠ -1
theorem OkTo.succ {a b : List Int} {os : List Nat} {n : Nat} (h : OkTo a b os n) (g : yM a b os n ≠ -1) : OkTo a b os (n + 1) := fun k hk => by
  rcases Nat.lt_or_ge k n with e | e
  · exact h k e
  · have : k = n := by omega
    subst this; exact g
theorem getD_setB {l : List Bool} {i t : Nat} (hi : i < l.length) : (l.set i true).getD t false = (decide (t = i) || l.getD t false) := by
  rw [List.getD_eq_getElem?_getD, List.getD_eq_getElem?_getD, List.getElem?_set]
  by_cases e : i = t
  · subst e; simp [hi]
  · simp [e, Ne.symm e]
theorem getD_setI {l : List Int} {i t : Nat} {v z : Int} (hi : i < l.length) : (l.set i v).getD t z = if t = i then v else l.getD t z := by
  rw [List.getD_eq_getElem?_getD, List.getD_eq_getElem?_getD, List.getElem?_set]
  by_cases e : i = t
  · subst e; simp [hi]
  · simp [e, Ne.symm e]
/-- What holds behind n loads that all found a track. -/
structure InvM (a b : List Int) (os : List Nat) (n : Nat) : Prop where
  dom : ∀ t : Nat, (stM a b os n).1.getD t false = true ↔ ∃ k, k < n ∧ yM a b os k = (t : Int)
  fit : ∀ k, k < n → ∃ y : Nat, yM a b os k = (y : Int) ∧ y < b.length ∧ ld a (os.getD k 0) ≤ ld b y
  inj : ∀ i j, i < j → j < n → yM a b os i ≠ yM a b os j
  tot : (List.range b.length).countP (fun t => (stM a b os n).1.getD t false) = n
  cnt : ∀ h, (List.range n).countP (fun k => decide (h ≤ ld a (os.getD k 0))) ≤ (List.range b.length).countP (fun t => (stM a b os n).1.getD t false && decide (h ≤ ld b t))
  val : ∀ k, k < n → (stM a b os n).2.getD (os.getD k 0) (-1) = yM a b os k
  neg : ∀ x, (∀ k, k < n → os.getD k 0 ≠ x) → (stM a b os n).2.getD x (-1) = -1
theorem invM {a b : List Int} {os : List Nat} (O : IsOrd a os) : ∀ n, n ≤ os.length → OkTo a b os n → InvM a b os n
  | 0, _, _ => by
    have e : ∀ t, (stM a b os 0).1.getD t false = false := fun t => by
      unfold stM
      rw [List.getD_eq_getElem?_getD, List.getElem?_replicate]
      split <;> rfl
    refine ⟨fun t => ⟨fun h => ?_, fun ⟨k, h, _⟩ => absurd h (Nat.not_lt_zero _)⟩, fun k h => absurd h (Nat.not_lt_zero _), fun i j h1 h2 => absurd h2 (Nat.not_lt_zero _), ?_, fun h => Nat.zero_le _, fun k h => absurd h (Nat.not_lt_zero _), fun x _ => ?_⟩
    · rw [e t] at h; cases h
    · rw [List.countP_eq_zero]
      intro t _
      rw [e t]; exact Bool.false_ne_true
    · unfold stM
      rw [List.getD_eq_getElem?_getD, List.getElem?_replicate]
      split <;> rfl
  | n + 1, hn, ok => by
    have I := invM O n (by omega) (fun k hk => ok k (by omega))
    have hlen := stM_len a b os n
    have hne := ok n (by omega)
    obtain ⟨y, hy, hyl, hfit, hfree⟩ : ∃ y : Nat, yM a b os n = (y : Int) ∧ y < b.length ∧ ld a (os.getD n 0) ≤ ld b y ∧ (stM a b os n).1.getD y false = false := by
      rcases bestZ_spec b (stM a b os n).1 (ld a (os.getD n 0)) b.length with ⟨h, _⟩ | h
      · exact absurd h hne
      · exact h
    have es := stM_succ a b os n
    rw [hy, Int.toNat_natCast] at es
    have ea := O.at_ (show n < os.length by omega)
    have e1 : ∀ t, (stM a b os (n + 1)).1.getD t false = (decide (t = y) || (stM a b os n).1.getD t false) := fun t => by rw [es]; exact getD_setB (by rw [hlen.1]; exact hyl)
    have e2 : ∀ x, (stM a b os (n + 1)).2.getD x (-1) = if x = os.getD n 0 then (y : Int) else (stM a b os n).2.getD x (-1) := fun x => by rw [es]; exact getD_setI (by rw [hlen.2]; exact ea.1)
    refine ⟨fun t => ?_, fun k hk => ?_, fun i j hij hj => ?_, ?_, fun h => ?_, fun k hk => ?_, fun x hx => ?_⟩
    · rw [e1]
      constructor
      · intro h
        rw [Bool.or_eq_true] at h
        rcases h with h | h
        · have := of_decide_eq_true h
          subst this
          exact ⟨n, by omega, hy⟩
        · obtain ⟨k, k1, k2⟩ := (I.dom t).1 h
          exact ⟨k, by omega, k2⟩
      · rintro ⟨k, k1, k2⟩
        rw [Bool.or_eq_true]
        rcases Nat.lt_or_ge k n with g | g
        · exact Or.inr ((I.dom t).2 ⟨k, g, k2⟩)
        · have : k = n := by omega
          subst this
          rw [hy] at k2
          exact Or.inl (decide_eq_true (by omega))
    · rcases Nat.lt_or_ge k n with g | g
      · exact I.fit k g
      · have : k = n := by omega
        subst this
        exact ⟨y, hy, hyl, hfit⟩
    · rcases Nat.lt_or_ge j n with g | g
      · exact I.inj i j hij g
      · have : j = n := by omega
        subst this
        intro e
        rw [hy] at e
        have := (I.dom y).2 ⟨i, hij, e⟩
        rw [hfree] at this
        cases this
    · rw [countP_upd (p := fun t => (stM a b os n).1.getD t false) hyl hfree (by rw [e1]; simp) (fun t ht => by rw [e1]; simp [ht]), I.tot]
    · rw [List.range_succ, List.countP_append]
      by_cases g : h ≤ ld a (os.getD n 0)
      · have h1 : (List.range b.length).countP (fun t => (stM a b os (n + 1)).1.getD t false && decide (h ≤ ld b t)) = (List.range b.length).countP (fun t => (stM a b os n).1.getD t false && decide (h ≤ ld b t)) + 1 :=
          countP_upd hyl (by rw [hfree]; rfl) (by rw [e1, decide_eq_true rfl, Bool.true_or, Bool.true_and]; exact decide_eq_true (by omega)) (fun t ht => by rw [e1, decide_eq_false ht, Bool.false_or])
        have h2 := I.cnt h
        rw [h1, countP_t (decide_eq_true g)]
        omega
      · have h1 : (List.range b.length).countP (fun t => (stM a b os n).1.getD t false && decide (h ≤ ld b t)) ≤ (List.range b.length).countP (fun t => (stM a b os (n + 1)).1.getD t false && decide (h ≤ ld b t)) :=
          List.countP_mono_left fun t _ ht => by rw [e1]; rw [Bool.and_eq_true] at ht ⊢; exact ⟨by rw [ht.1, Bool.or_true], ht.2⟩
        have h2 := I.cnt h
        rw [countP_f (decide_eq_false g)]
        omega
    · rw [e2]
      rcases Nat.lt_or_ge k n with g | g
      · rw [if_neg (fun e => by have := getD_inj O.nodup (by omega) (by omega) e; omega)]
        exact I.val k g
      · have : k = n := by omega
        subst this
        rw [if_pos rfl, hy]
    · rw [e2, if_neg (Ne.symm (hx n (by omega)))]
      exact I.neg x (fun k hk => hx k (by omega))
/-- An assignment. -/
structure Asg (a b l : List Int) : Prop where
  len : l.length = a.length
  zero : ∀ i, i < a.length → ld a i = 0 → l.getD i (-1) = -1
  fit : ∀ i, i < a.length → 0 < ld a i → ∃ y : Nat, l.getD i (-1) = (y : Int) ∧ y < b.length ∧ ld a i ≤ ld b y
  inj : ∀ i j, i < j → j < a.length → 0 < ld a i → 0 < ld a j → l.getD i (-1) ≠ l.getD j (-1)
theorem IsOrd.find {a : List Int} {os : List Nat} (O : IsOrd a os) {x : Nat} (h : x < a.length) (h0 : 0 < ld a x) : ∃ k, k < os.length ∧ os.getD k 0 = x := by
  obtain ⟨k, hk, e⟩ := List.getElem_of_mem (O.mem.2 ⟨h, h0⟩)
  exact ⟨k, hk, by rw [List.getD_eq_getElem?_getD, List.getElem?_eq_getElem hk]; exact e⟩
theorem asg_of {a b : List Int} {os : List Nat} (O : IsOrd a os) (ok : OkTo a b os os.length) : Asg a b (stM a b os os.length).2 := by
  have I := invM O os.length (Nat.le_refl _) ok
  refine ⟨(stM_len a b os _).2, fun i hi h0 => I.neg i (fun k hk e => ?_), fun i hi h0 => ?_, fun i j hij hj hi0 hj0 => ?_⟩
  · have := (O.at_ hk).2
    rw [e] at this
    omega
  · obtain ⟨k, hk, e⟩ := O.find hi h0
    obtain ⟨y, h1, h2, h3⟩ := I.fit k hk
    rw [e] at h3
    exact ⟨y, by rw [← e, I.val k hk]; exact h1, h2, h3⟩
  · obtain ⟨k, hk, e⟩ := O.find (by omega) hi0
    obtain ⟨k', hk', e'⟩ := O.find hj hj0
    rw [← e, ← e', I.val k hk, I.val k' hk']
    have hne : k ≠ k' := fun h => by rw [h, e'] at e; omega
    rcases Nat.lt_or_gt_of_ne hne with g | g
    · exact I.inj k k' g hk'
    · exact Ne.symm (I.inj k' k g hk)
/-- As many tracks as loads, at every length. -/
def Hall (a b : List Int) : Prop := ∀ h, 0 < h → cF a h ≤ cF b h
theorem cF_ord {a : List Int} {os : List Nat} (O : IsOrd a os) {h : Int} (hh : 0 < h) : cF a h = (List.range os.length).countP (fun k => decide (h ≤ ld a (os.getD k 0))) := by
  have e1 : cF a h = (posL a).countP (fun x => decide (h ≤ ld a x)) := by
    unfold cF posL
    rw [List.countP_filter]
    exact countP_same fun t _ => by
      by_cases g : h ≤ ld a t
      · rw [decide_eq_true g, decide_eq_true (by omega)]; rfl
      · rw [decide_eq_false g]; rfl
  rw [e1, ← O.perm.countP_eq]
  have e2 : os = (List.range os.length).map (fun k => os.getD k 0) := by
    refine List.ext_getElem? fun i => ?_
    by_cases g : i < os.length
    · simp [g]
    · simp [g]
  conv => lhs; rw [e2]
  rw [List.countP_map]
  rfl
theorem hall_of {a b : List Int} {os : List Nat} (O : IsOrd a os) (ok : OkTo a b os os.length) : Hall a b := fun h hh => by
  have I := invM O os.length (Nat.le_refl _) ok
  rw [cF_ord O hh]
  refine Nat.le_trans (I.cnt h) (List.countP_mono_left fun t _ ht => ?_)
  rw [Bool.and_eq_true] at ht
  exact ht.2
/-- A load that finds no track. -/
theorem stuck_of {a b : List Int} {os : List Nat} (O : IsOrd a os) {n : Nat} (hn : n < os.length) (ok : OkTo a b os n) (bad : yM a b os n = -1) : cF b (ld a (os.getD n 0)) = n ∧ n < cF a (ld a (os.getD n 0)) := by
  have I := invM O n (by omega) ok
  have hs : ∀ t, t < b.length → ld b t < ld a (os.getD n 0) ∨ (stM a b os n).1.getD t false = true := by
    rcases bestZ_spec b (stM a b os n).1 (ld a (os.getD n 0)) b.length with ⟨_, h⟩ | ⟨y, h, _⟩
    · exact h
    · have : yM a b os n = (y : Int) := h
      rw [bad] at this; omega
  refine ⟨?_, ?_⟩
  · refine Eq.trans ?_ I.tot
    unfold cF
    refine countP_same fun t ht => ?_
    show decide (ld a (os.getD n 0) ≤ ld b t) = (stM a b os n).1.getD t false
    cases h : (stM a b os n).1.getD t false with
    | true =>
      obtain ⟨k, k1, k2⟩ := (I.dom t).1 h
      obtain ⟨y, y1, y2, y3⟩ := I.fit k k1
      rw [k2] at y1
      have : t = y := by omega
      subst this
      have := O.le k1 hn
      exact decide_eq_true (by omega)
    | false =>
      rcases hs t ht with g | g
      · exact decide_eq_false (by omega)
      · rw [h] at g; cases g
  · rw [cF_ord O (O.at_ hn).2]
    have h1 : (List.range (n + 1)).countP (fun k => decide (ld a (os.getD n 0) ≤ ld a (os.getD k 0))) = n + 1 := by
      have := List.countP_eq_length (p := fun k => decide (ld a (os.getD n 0) ≤ ld a (os.getD k 0))) (l := List.range (n + 1))
      rw [List.length_range] at this
      refine this.2 fun k hk => decide_eq_true ?_
      have hk := List.mem_range.1 hk
      rcases Nat.lt_or_ge k n with g | g
      · exact O.le g hn
      · have : k = n := by omega
        subst this; exact Int.le_refl _
    have h2 : (List.range (n + 1)).countP (fun k => decide (ld a (os.getD n 0) ≤ ld a (os.getD k 0))) ≤ (List.range os.length).countP (fun k => decide (ld a (os.getD n 0) ≤ ld a (os.getD k 0))) := by
      refine List.Sublist.countP_le ?_
      obtain ⟨m, hm⟩ : ∃ m, os.length = (n + 1) + m := ⟨os.length - (n + 1), by omega⟩
      have e : List.range (n + 1 + m) = List.range (n + 1) ++ (List.range m).map (fun x => n + 1 + x) := List.range_add
      rw [hm, e]
      exact List.sublist_append_left _ _
    omega
end Go.Proofs.Ytknkgcphamhjlaa
