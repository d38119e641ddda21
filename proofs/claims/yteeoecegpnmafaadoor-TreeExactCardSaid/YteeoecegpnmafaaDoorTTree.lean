/-
  Stage 10, plain: what a valid layout is as a tree; where two paths part.
-/
import Derived.Test.YteeoecegpnmafaaDoorTFn5
set_option linter.unusedSimpArgs false
set_option linter.unusedVariables false
namespace Go.Proofs.YteeoecegpnmafaaDoor
open Go.RowKit

structure TreeP (l : List El) : Prop where
  par : Par l
  pk : ∀ i : Int, 0 < i → i < l.length → kindA l (parA l i) ≠ 4 ∧ (sideA l i ≠ 0 ↔ kindA l (parA l i) = 3)
  one : ∀ i j : Int, 0 < i → i < j → j < l.length → ¬ (parA l i = parA l j ∧ sideA l i = sideA l j)
  kid : ∀ i : Int, 0 ≤ i → i < l.length → needK (kindA l i) ≤ (kids l i.toNat : Int)
  ne : 1 ≤ l.length
theorem getD_takeE {l : List El} {k i : Nat} (h : i < k) : (l.take k).getD i zeroE = l.getD i zeroE := by
  rw [List.getD_eq_getElem?_getD, List.getElem?_take_of_lt h, ← List.getD_eq_getElem?_getD]
theorem fullE_get {l : List El} : ∀ (n : Nat), fullE l n = true → ∀ j, j < n → needK ((l.getD j zeroE).kind) ≤ (kids l j : Int)
  | 0, _, j, hj => absurd hj (by omega)
  | n + 1, h, j, hj => by
    have h' : (fullE l n && decide (needK ((l.getD n zeroE).kind) ≤ (kids l n : Int))) = true := h
    rw [Bool.and_eq_true, decide_eq_true_eq] at h'
    by_cases e : j = n
    · subst e; exact h'.2
    · exact fullE_get n h'.1 j (by omega)
theorem valid_vl {l : List El} (h : validE l = 0) : vlE [] l = 0 ∧ fullE l l.length = true ∧ 1 ≤ l.length ∧ l.length ≤ 128 ∧ trks l ≤ 32 := by
  unfold validE at h
  by_cases h1 : 128 < l.length
  · rw [if_pos h1] at h; cases h
  · rw [if_neg h1] at h
    by_cases h2 : l.length = 0
    · rw [if_pos h2] at h; cases h
    · rw [if_neg h2] at h
      by_cases h3 : vlE [] l = 0
      · rw [if_pos h3] at h
        unfold treeE at h
        by_cases h4 : fullE l l.length = false
        · rw [if_pos h4] at h; cases h
        · rw [if_neg h4] at h
          by_cases h5 : 32 < trks l
          · rw [if_pos h5] at h; cases h
          · exact ⟨h3, by simpa using h4, by omega, by omega, by omega⟩
      · rw [if_neg h3] at h; exact absurd h h3
theorem el_get {l : List El} {i : Int} (h0 : 0 ≤ i) (h1 : i < l.length) : l[i.toNat]? = some (l.getD i.toNat zeroE) := by
  rw [List.getD_eq_getElem?_getD, List.getElem?_eq_getElem (by omega)]; rfl
theorem TreeP.of {l : List El} (h : validE l = 0) : TreeP l := by
  obtain ⟨hv, hf, hn, _, _⟩ := valid_vl h
  have hp := Par.of hv
  have key : ∀ i : Int, 0 < i → i < l.length → 0 ≤ parA l i ∧ parA l i < i ∧ placeE (l.getD i.toNat zeroE) (l.take i.toNat) = 0 ∧ (l.getD i.toNat zeroE).kind ≠ 0 := fun i h0 h1 => by
    have hk := el_get (l := l) (i := i) (by omega) h1
    obtain ⟨a, b, c, d⟩ := vl_at hv hk
    rcases hp i (by omega) h1 with ⟨e, _⟩ | ⟨_, e, f⟩
    · omega
    · exact ⟨e, f, d, fun g => by have := b.1 g; omega⟩
  refine ⟨hp, fun i h0 h1 => ?_, fun i j h0 h1 h2 => ?_, fun i h0 h1 => ?_, hn⟩
  · obtain ⟨e, f, d, g⟩ := key i h0 h1
    obtain ⟨p1, p2, p3, p4, _⟩ := placeE_parts d g
    have e1 : (l.getD i.toNat zeroE).par = parA l i := rfl
    rw [e1, getD_takeE (by omega)] at p3 p4
    exact ⟨p3, p4⟩
  · rintro ⟨e1, e2⟩
    obtain ⟨_, _, d, g⟩ := key j (by omega) h2
    obtain ⟨_, _, _, _, p5⟩ := placeE_parts d g
    unfold takenE at p5
    rw [List.any_eq_false] at p5
    have hm : l.getD i.toNat zeroE ∈ l.take j.toNat := by
      rw [← getD_takeE (l := l) (k := j.toNat) (by omega), List.getD_eq_getElem?_getD, List.getElem?_eq_getElem (by rw [List.length_take]; omega)]
      exact List.getElem_mem _
    have := p5 _ hm
    apply this
    rw [Bool.and_eq_true, decide_eq_true_eq, decide_eq_true_eq]
    exact ⟨e1, e2⟩
  · exact fullE_get _ hf i.toNat (by omega)
theorem TreeP.last {l : List El} (h : TreeP l) (hv : vlE [] l = 0) : kindA l ((l.length : Int) - 1) = 4 := by
  have h0 := h.kid ((l.length : Int) - 1) (by have := h.ne; omega) (by omega)
  have hz : kids l ((l.length : Int) - 1).toNat = 0 := by
    unfold kids
    rw [List.length_eq_zero_iff, List.filter_eq_nil_iff]
    intro x hx
    obtain ⟨k, hk⟩ := List.mem_iff_getElem?.1 hx
    have hlt := (List.getElem?_eq_some_iff.1 hk).1
    rcases par_lt hv hk with ⟨_, _, e, _⟩ | ⟨_, _, _, e⟩
    · simp [e]
    · intro hb
      rw [Bool.and_eq_true, decide_eq_true_eq] at hb
      omega
  rw [hz] at h0
  unfold needK at h0
  by_cases g3 : kindA l ((l.length : Int) - 1) = 3
  · rw [if_pos g3] at h0; omega
  · rw [if_neg g3] at h0
    by_cases g4 : kindA l ((l.length : Int) - 1) = 4
    · exact g4
    · rw [if_neg g4] at h0; omega
theorem idx_mem {n : Nat} {p : Nat → Bool} {x : Int} : x ∈ idxZ n p ↔ 0 ≤ x ∧ x < n ∧ p x.toNat = true := by
  unfold idxZ
  rw [List.mem_map]
  constructor
  · rintro ⟨j, hj, rfl⟩
    obtain ⟨h1, h2⟩ := List.mem_filter.1 hj
    have := List.mem_range.1 h1
    exact ⟨by omega, by omega, by simpa using h2⟩
  · rintro ⟨h0, h1, h2⟩
    exact ⟨x.toNat, List.mem_filter.2 ⟨List.mem_range.2 (by omega), h2⟩, by omega⟩
theorem trk_mem {l : List El} {x : Int} : x ∈ trkZ l ↔ 0 ≤ x ∧ x < l.length ∧ kindA l x = 4 := by
  unfold trkZ
  rw [idx_mem]
  constructor
  · rintro ⟨a, b, c⟩
    unfold isTrk at c
    rw [decide_eq_true_eq, show ((x.toNat : Nat) : Int) = x by omega] at c
    exact ⟨a, b, c⟩
  · rintro ⟨a, b, c⟩
    refine ⟨a, b, ?_⟩
    unfold isTrk
    rw [decide_eq_true_eq, show ((x.toNat : Nat) : Int) = x by omega]; exact c
theorem idx_len (n : Nat) (p : Nat → Bool) : (idxZ n p).length ≤ n := by
  unfold idxZ
  rw [List.length_map]
  exact Nat.le_trans (List.length_filter_le _ _) (by rw [List.length_range]; exact Nat.le_refl _)
theorem trk_ne {l : List El} (h : validE l = 0) : (trkZ l).length ≠ 0 := by
  have ht := TreeP.of h
  have := trk_mem.2 ⟨by have := ht.ne; omega, by omega, ht.last (valid_vl h).1⟩
  intro e
  rw [List.length_eq_zero_iff.1 e] at this
  cases this
/-- The longest common beginning. -/
theorem lcp (a b : List Int) : ∃ P a' b', a = P ++ a' ∧ b = P ++ b' ∧ (a' = [] ∨ b' = [] ∨ ∃ u v X Y, a' = u :: X ∧ b' = v :: Y ∧ u ≠ v) := by
  induction a generalizing b with
  | nil => exact ⟨[], [], b, rfl, rfl, Or.inl rfl⟩
  | cons x a ih =>
    cases b with
    | nil => exact ⟨[], x :: a, [], rfl, rfl, Or.inr (Or.inl rfl)⟩
    | cons y b =>
      by_cases h : x = y
      · subst h
        obtain ⟨P, a', b', e1, e2, e3⟩ := ih b
        exact ⟨x :: P, a', b', by rw [e1]; rfl, by rw [e2]; rfl, e3⟩
      · exact ⟨[], x :: a, y :: b, rfl, rfl, Or.inr (Or.inr ⟨x, y, a, b, rfl, rfl, h⟩)⟩
theorem way_at {l : List El} (hp : Par l) {i : Int} (h1 : i < l.length) {P X : List Int} {u : Int} (h : wayZ l i = P ++ u :: X) (hP : P ≠ []) : wayZ l (parA l u) = P ∧ 0 ≤ parA l u ∧ parA l u < u ∧ u < l.length ∧ wayZ l u = P ++ [u] := by
  obtain ⟨m, hm⟩ : ∃ m, P.length = m + 1 := ⟨P.length - 1, by have := List.length_pos_iff.2 hP; omega⟩
  have hu : (wayZ l i)[m + 1]? = some u := by rw [h, ← hm]; simp
  obtain ⟨a, b, c, d⟩ := way_next hp h1 hu
  have ht := way_take hp h1 a
  have ht2 := way_take hp h1 hu
  rw [h, ← hm, List.take_left] at ht
  rw [h, ← hm, List.take_append, List.take_of_length_le (by omega), show P.length + 1 - P.length = 1 by omega] at ht2
  exact ⟨ht.symm, b, c, d, ht2.symm⟩
/-- Two tracks' paths part behind a switch. -/
theorem part {l : List El} (h : TreeP l) {x y : Int} (hx : 0 ≤ x ∧ x < l.length ∧ kindA l x = 4) (hy : 0 ≤ y ∧ y < l.length ∧ kindA l y = 4) (hne : x ≠ y) :
    ∃ P u v X Y, wayZ l x = P ++ u :: X ∧ wayZ l y = P ++ v :: Y ∧ u ≠ v ∧ P ≠ [] := by
  obtain ⟨P, a', b', e1, e2, e3⟩ := lcp (wayZ l x) (wayZ l y)
  have hhx := way_head h.par hx.1 hx.2.1
  have hhy := way_head h.par hy.1 hy.2.1
  have hlx := way_last h.par hx.1 hx.2.1
  have hly := way_last h.par hy.1 hy.2.1
  have nopar : ∀ {i : Int} {Q : List Int} {u : Int} {X : List Int}, i < l.length → wayZ l i = Q ++ u :: X → Q ≠ [] → ∀ t : Int, Q = wayZ l t → 0 ≤ t → t < l.length → kindA l t ≠ 4 := by
    intro i Q u X hi hw hQ t hQt ht ht2
    obtain ⟨a, b, c, d, _⟩ := way_at h.par hi hw hQ
    have h1 := way_last h.par ht ht2
    have h2 := way_last h.par b (by omega)
    rw [a, hQt, h1.2] at h2
    have e : t = parA l u := by injection h2.2
    rw [e]
    exact (h.pk u (by omega) d).1
  rcases e3 with e3 | e3 | ⟨u, v, X, Y, e3, e4, e5⟩
  · subst e3
    rw [List.append_nil] at e1
    exfalso
    cases b' with
    | nil =>
      rw [List.append_nil] at e2
      rw [e1, ← e2, hly.2] at hlx
      exact hne (by injection hlx.2 with e; exact e.symm)
    | cons v Y =>
      have hP : P ≠ [] := by rw [← e1]; intro g; rw [g] at hhx; simp at hhx
      exact nopar hy.2.1 e2 hP x e1.symm hx.1 hx.2.1 hx.2.2
  · subst e3
    rw [List.append_nil] at e2
    exfalso
    cases a' with
    | nil =>
      rw [List.append_nil] at e1
      rw [e1, ← e2, hly.2] at hlx
      exact hne (by injection hlx.2 with e; exact e.symm)
    | cons v Y =>
      have hP : P ≠ [] := by rw [← e2]; intro g; rw [g] at hhy; simp at hhy
      exact nopar hx.2.1 e1 hP y e2.symm hy.1 hy.2.1 hy.2.2
  · subst e3; subst e4
    refine ⟨P, u, v, X, Y, e1, e2, e5, ?_⟩
    rintro rfl
    rw [e1] at hhx
    rw [e2] at hhy
    simp at hhx hhy
    exact e5 (hhx.trans hhy.symm)
theorem lastZ_skip (bs : List Bool) (zs ys : List Int) (h : ∀ z ∈ ys, bs.getD z.toNat false ≠ true) : lastZ bs (zs ++ ys) = lastZ bs zs := by
  induction ys generalizing zs with
  | nil => rw [List.append_nil]
  | cons y ys ih =>
    rw [show zs ++ y :: ys = (zs ++ [y]) ++ ys by simp, ih (zs ++ [y]) (fun z hz => h z (List.mem_cons_of_mem _ hz)), lastZ_snoc, if_neg (h y (List.mem_cons_self ..))]
theorem com_self {l : List El} (hp : Par l) {x : Int} (h0 : 0 ≤ x) (h1 : x < l.length) : comZ l x x = x := by
  unfold comZ
  have hs := wayZ_step hp h0 h1
  have hm : (onZ l x).getD x.toNat false = true := (on_mem hp h1 h0).2 (by rw [hs]; simp)
  rw [hs, lastZ_snoc, if_pos hm]
theorem com_part {l : List El} (hp : Par l) {x y : Int} (hx : 0 ≤ x ∧ x < l.length) (hy : 0 ≤ y ∧ y < l.length) {P X Y : List Int} {u v : Int} (e1 : wayZ l x = P ++ u :: X) (e2 : wayZ l y = P ++ v :: Y) (huv : u ≠ v) (hP : P ≠ []) : comZ l x y = parA l u := by
  obtain ⟨a, b, c, d, _⟩ := way_at hp hx.2 e1 hP
  have hps := wayZ_step hp b (show parA l u < l.length by omega)
  rw [a] at hps
  unfold comZ
  rw [e1, lastZ_skip, hps, lastZ_snoc, if_pos]
  · exact (on_mem hp hy.2 b).2 (by rw [e2, hps]; simp)
  · intro z hz hon
    have hzx : z ∈ wayZ l x := by rw [e1]; exact List.mem_append_right _ hz
    have hz0 := (way_bd hp hx.2 z hzx).1
    have hzy := (on_mem hp hy.2 hz0).1 hon
    obtain ⟨k, hk⟩ := List.mem_iff_getElem?.1 hz
    have hkx : (wayZ l x)[P.length + k]? = some z := by rw [e1, List.getElem?_append_right (by omega), Nat.add_sub_cancel_left]; exact hk
    obtain ⟨m, hm⟩ := List.mem_iff_getElem?.1 hzy
    have t1 := way_take hp hx.2 hkx
    have t2 := way_take hp hy.2 hm
    have hl1 := (List.getElem?_eq_some_iff.1 hkx).1
    have hl2 := (List.getElem?_eq_some_iff.1 hm).1
    have hlen : P.length + k = m := by
      have := congrArg List.length (t1.trans t2.symm)
      rw [List.length_take, List.length_take] at this
      omega
    have hget : ((wayZ l x).take (P.length + k + 1))[P.length]? = ((wayZ l y).take (m + 1))[P.length]? := by rw [t1, t2]
    rw [List.getElem?_take_of_lt (by omega), List.getElem?_take_of_lt (by omega), e1, e2] at hget
    simp at hget
    exact huv hget
theorem com_bd {l : List El} (h : TreeP l) {x y : Int} (hx : 0 ≤ x ∧ x < l.length ∧ kindA l x = 4) (hy : 0 ≤ y ∧ y < l.length ∧ kindA l y = 4) (hne : x ≠ y) :
    ∃ c u v X Y, comZ l x y = c ∧ comZ l y x = c ∧ 0 ≤ c ∧ c < l.length ∧ kindA l c = 3 ∧ sideA l u ≠ sideA l v ∧ setZ l x = setL l (wayZ l c) ++ (c, sideA l u) :: X ∧ setZ l y = setL l (wayZ l c) ++ (c, sideA l v) :: Y := by
  obtain ⟨P, u, v, X, Y, e1, e2, huv, hP⟩ := part h hx hy hne
  obtain ⟨a1, b1, c1, d1, _⟩ := way_at h.par hx.2.1 e1 hP
  obtain ⟨a2, b2, c2, d2, _⟩ := way_at h.par hy.2.1 e2 hP
  have hpp : parA l u = parA l v := by
    have l1 := (way_last h.par b1 (by omega)).2
    have l2 := (way_last h.par b2 (by omega)).2
    rw [a1] at l1
    rw [a2, l1] at l2
    injection l2
  have hs : sideA l u ≠ sideA l v := by
    intro e
    rcases Int.lt_or_gt_of_ne huv with g | g
    · exact h.one u v (by omega) g d2 ⟨hpp, e⟩
    · exact h.one v u (by omega) g d1 ⟨hpp.symm, e.symm⟩
  have hk : kindA l (parA l u) = 3 := by
    refine Decidable.of_not_not fun g => hs ?_
    have g1 : sideA l u = 0 := Decidable.of_not_not fun q => g ((h.pk u (by omega) d1).2.1 q)
    have g2 : sideA l v = 0 := Decidable.of_not_not fun q => g (by rw [hpp]; exact (h.pk v (by omega) d2).2.1 q)
    rw [g1, g2]
  have hset : ∀ (z : Int) (Z : List Int), 0 < z → kindA l (parA l z) = 3 → setL l (z :: Z) = (parA l z, sideA l z) :: setL l Z := fun z Z h0 h3 => by
    unfold setL
    rw [List.filter_cons_of_pos (by unfold isSet; rw [decide_eq_true h0, decide_eq_true h3]; rfl)]; rfl
  have happ : ∀ A B, setL l (A ++ B) = setL l A ++ setL l B := fun A B => by unfold setL; rw [List.filter_append, List.map_append]
  refine ⟨parA l u, u, v, setL l X, setL l Y, com_part h.par ⟨hx.1, hx.2.1⟩ ⟨hy.1, hy.2.1⟩ e1 e2 huv hP, ?_, b1, by omega, hk, hs, ?_, ?_⟩
  · rw [com_part h.par ⟨hy.1, hy.2.1⟩ ⟨hx.1, hx.2.1⟩ e2 e1 (Ne.symm huv) hP, hpp]
  · unfold setZ
    rw [e1, happ, hset u X (by omega) hk, a1]
  · unfold setZ
    rw [e2, happ, hset v Y (by omega) (by rw [← hpp]; exact hk), a1, hpp]
end Go.Proofs.YteeoecegpnmafaaDoor
