/-
  Stage 9, plain: a valid layout has one more track than switches.
-/
import Derived.Test.YteeoecegpnmafaaGreatDoorTLay
set_option linter.unusedSimpArgs false
set_option linter.unusedVariables false
namespace Go.Proofs.YteeoecegpnmafaaGreatDoor
open Go.RowKit

def sumN (f : Nat → Nat) : Nat → Nat
  | 0 => 0
  | n + 1 => sumN f n + f n
theorem sumN_congr {f g : Nat → Nat} : ∀ {n : Nat}, (∀ i, i < n → f i = g i) → sumN f n = sumN g n
  | 0, _ => rfl
  | n + 1, h => by
    show sumN f n + f n = sumN g n + g n
    rw [sumN_congr (fun i hi => h i (by omega)), h n (by omega)]
theorem sumN_add (f g : Nat → Nat) : ∀ n, sumN (fun i => f i + g i) n = sumN f n + sumN g n
  | 0 => rfl
  | n + 1 => by
    show sumN (fun i => f i + g i) n + (f n + g n) = sumN f n + f n + (sumN g n + g n)
    rw [sumN_add f g n]; omega
theorem sumN_zero : ∀ n, sumN (fun _ => 0) n = 0
  | 0 => rfl
  | n + 1 => by
    show sumN (fun _ => 0) n + 0 = 0
    rw [sumN_zero n]
theorem sumN_one (p : Nat) : ∀ n, sumN (fun i => if p = i then 1 else 0) n = if p < n then 1 else 0
  | 0 => by rw [if_neg (by omega)]; rfl
  | n + 1 => by
    show sumN (fun i => if p = i then 1 else 0) n + (if p = n then 1 else 0) = _
    rw [sumN_one p n]
    by_cases h : p = n
    · rw [if_neg (by omega), if_pos h, if_pos (by omega)]
    · rw [if_neg h]
      by_cases g : p < n
      · rw [if_pos g, if_pos (by omega)]
      · rw [if_neg g, if_neg (by omega)]
def notC (l : List El) : Nat := (l.filter fun x => !decide (x.kind = 0)).length
theorem notC_snoc (l : List El) (x : El) : notC (l ++ [x]) = notC l + (if x.kind = 0 then 0 else 1) := by
  unfold notC
  rw [List.filter_append, List.length_append]
  congr 1
  by_cases h : x.kind = 0
  · rw [if_pos h]; simp [h]
  · rw [if_neg h]; simp [h]
def sws (l : List El) : Nat := (l.filter fun x => decide (x.kind = 3)).length
theorem sws_snoc (l : List El) (x : El) : sws (l ++ [x]) = sws l + (if x.kind = 3 then 1 else 0) := by
  unfold sws
  rw [List.filter_append, List.length_append]
  congr 1
  by_cases h : x.kind = 3
  · rw [if_pos h]; simp [h]
  · rw [if_neg h]; simp [h]
theorem snoc_ind {P : List El → Prop} (h0 : P []) (h1 : ∀ l x, P l → P (l ++ [x])) : ∀ l, P l := by
  intro l
  have : ∀ n, n ≤ l.length → P (l.take n) := by
    intro n
    induction n with
    | zero => intro _; exact h0
    | succ n ih =>
      intro hn
      rw [List.take_succ_eq_append_getElem (by omega)]
      exact h1 _ _ (ih (by omega))
  have h := this l.length (Nat.le_refl _)
  rwa [List.take_length] at h
theorem kids_sum (n : Nat) : ∀ l : List El, (∀ x ∈ l, x.kind = 0 ∨ (0 ≤ x.par ∧ x.par < (n : Int))) → sumN (kids l) n = notC l := by
  refine snoc_ind (fun _ => ?_) (fun l x ih h => ?_)
  · have : sumN (kids []) n = sumN (fun _ => 0) n := sumN_congr (fun i _ => rfl)
    rw [this, sumN_zero]; rfl
  · have h1 := ih (fun y hy => h y (List.mem_append_left _ hy))
    have hx := h x (by simp)
    have e : sumN (kids (l ++ [x])) n = sumN (fun i => kids l i + (if x.kind ≠ 0 ∧ x.par = (i : Int) then 1 else 0)) n := sumN_congr (fun i _ => kids_snoc l x i)
    rw [e, sumN_add, h1, notC_snoc]
    congr 1
    by_cases hk : x.kind = 0
    · rw [if_pos hk]
      have : sumN (fun i => if x.kind ≠ 0 ∧ x.par = (i : Int) then 1 else 0) n = sumN (fun _ => 0) n := sumN_congr (fun i _ => if_neg (fun g => g.1 hk))
      rw [this, sumN_zero]
    · rw [if_neg hk]
      have hp := hx.resolve_left hk
      have : sumN (fun i => if x.kind ≠ 0 ∧ x.par = (i : Int) then 1 else 0) n = sumN (fun i => if x.par.toNat = i then 1 else 0) n := sumN_congr (fun i _ => by
        by_cases g : x.par.toNat = i
        · rw [if_pos g, if_pos ⟨hk, by omega⟩]
        · rw [if_neg g, if_neg (fun q => g (by omega))])
      rw [this, sumN_one, if_pos (by omega)]
theorem notC_valid {l : List El} (h : vlE [] l = 0) : notC l + 1 = l.length + (if l.length = 0 then 1 else 0) := by
  have key : ∀ n, n ≤ l.length → notC (l.take n) + 1 = n + (if n = 0 then 1 else 0) := by
    intro n
    induction n with
    | zero => intro _; rfl
    | succ n ih =>
      intro hn
      have hx : l[n]? = some l[n] := List.getElem?_eq_getElem (by omega)
      have hk := (vl_at h hx).2.1
      rw [List.take_succ_eq_append_getElem (by omega), notC_snoc]
      have := ih (by omega)
      by_cases g : n = 0
      · rw [if_pos (hk.2 g)]
        rw [if_pos g] at this
        rw [if_neg (by omega)]; omega
      · rw [if_neg (fun q => g (hk.1 q))]
        rw [if_neg g] at this
        rw [if_neg (by omega)]; omega
  have := key l.length (Nat.le_refl _)
  rwa [List.take_length] at this
def needN (k : Int) : Nat := if k = 3 then 2 else if k = 4 then 0 else 1
theorem needN_K (k : Int) : ((needN k : Nat) : Int) = needK k := by
  unfold needN needK
  split
  · rfl
  · split <;> rfl
theorem need_sum (l : List El) : ∀ n, n ≤ l.length → sumN (fun i => needN (l.getD i zeroE).kind) n + trks (l.take n) = n + sws (l.take n) := by
  intro n
  induction n with
  | zero => intro _; rfl
  | succ n ih =>
    intro hn
    have h1 := ih (by omega)
    obtain ⟨y, hy, _, ht⟩ := drop_ex (l := l) (k := n) (by omega)
    have e : l.getD n zeroE = y := by rw [List.getD_eq_getElem?_getD, hy]; rfl
    show sumN (fun i => needN (l.getD i zeroE).kind) n + needN (l.getD n zeroE).kind + trks (l.take (n + 1)) = n + 1 + sws (l.take (n + 1))
    rw [ht, trks_snoc, sws_snoc, e]
    clear ih ht e hy
    generalize sumN (fun i => needN (l.getD i zeroE).kind) n = T at h1 ⊢
    unfold needN
    by_cases g3 : y.kind = 3
    · rw [if_pos g3, if_pos g3, if_neg (by omega)]; omega
    · rw [if_neg g3, if_neg g3]
      by_cases g4 : y.kind = 4
      · rw [if_pos g4, if_pos g4]; omega
      · rw [if_neg g4, if_neg g4]; omega
/-- How many elements stand at a place. -/
def cntE (l : List El) (i : Nat) (s : Int) : Nat := (l.filter fun x => !decide (x.kind = 0) && (decide (x.par = (i : Int)) && decide (x.side = s))).length
theorem cnt_snoc (l : List El) (x : El) (i : Nat) (s : Int) : cntE (l ++ [x]) i s = cntE l i s + (if x.kind ≠ 0 ∧ x.par = (i : Int) ∧ x.side = s then 1 else 0) := by
  unfold cntE
  rw [List.filter_append, List.length_append]
  congr 1
  by_cases h : x.kind ≠ 0 ∧ x.par = (i : Int) ∧ x.side = s
  · rw [if_pos h]; simp [h.1, h.2.1, h.2.2]
  · rw [if_neg h]
    have : (!decide (x.kind = 0) && (decide (x.par = (i : Int)) && decide (x.side = s))) = false := by
      by_cases h0 : x.kind = 0
      · simp [h0]
      · by_cases h1 : x.par = (i : Int)
        · have : x.side ≠ s := fun g => h ⟨h0, h1, g⟩
          simp [this]
        · simp [h1]
    simp [List.filter, this]
theorem kids_cnt : ∀ (l : List El) (i : Nat), (∀ x ∈ l, x.kind = 0 ∨ (0 ≤ x.side ∧ x.side ≤ 2)) → kids l i = cntE l i 0 + cntE l i 1 + cntE l i 2 := by
  refine snoc_ind (fun _ _ => rfl) (fun l x ih i h => ?_)
  rw [kids_snoc, cnt_snoc, cnt_snoc, cnt_snoc, ih i (fun y hy => h y (List.mem_append_left _ hy))]
  have hx := h x (by simp)
  by_cases hk : x.kind = 0
  · rw [if_neg (fun g => g.1 hk), if_neg (fun g => g.1 hk), if_neg (fun g => g.1 hk), if_neg (fun g => g.1 hk)]
    omega
  · by_cases hp : x.par = (i : Int)
    · rw [if_pos ⟨hk, hp⟩]
      rcases hx with hx | hx
      · exact absurd hx hk
      · have hs : x.side = 0 ∨ x.side = 1 ∨ x.side = 2 := by omega
        rcases hs with hs | hs | hs
        · rw [if_pos ⟨hk, hp, hs⟩, if_neg (fun g => by omega), if_neg (fun g => by omega)]; omega
        · rw [if_neg (fun g => by omega), if_pos ⟨hk, hp, hs⟩, if_neg (fun g => by omega)]; omega
        · rw [if_neg (fun g => by omega), if_neg (fun g => by omega), if_pos ⟨hk, hp, hs⟩]; omega
    · rw [if_neg (fun g => hp g.2), if_neg (fun g => hp g.2.1), if_neg (fun g => hp g.2.1), if_neg (fun g => hp g.2.1)]
      omega
theorem soundE_side {x : El} (h : soundE x = true) : 0 ≤ x.side ∧ x.side ≤ 2 := by
  unfold soundE behE at h
  by_cases h0 : x.kind = 0
  · rw [if_pos h0] at h
    simp at h
    omega
  · rw [if_neg h0] at h
    by_cases h2 : x.kind = 2
    · rw [if_pos h2] at h
      simp only [Bool.and_eq_true, decide_eq_true_eq] at h
      obtain ⟨⟨_, hr⟩, _⟩ := h
      unfold rngE at hr
      omega
    · rw [if_neg h2] at h
      by_cases h1 : x.kind = 1 ∨ x.kind = 3 ∨ x.kind = 4
      · rw [if_pos h1] at h
        simp only [Bool.and_eq_true, decide_eq_true_eq] at h
        obtain ⟨⟨_, hr⟩, _⟩ := h
        unfold rngE at hr
        omega
      · rw [if_neg h1] at h; cases h
theorem cnt_le {l : List El} (h : vlE [] l = 0) (i : Nat) (s : Int) : ∀ n, n ≤ l.length → cntE (l.take n) i s ≤ 1 := by
  intro n
  induction n with
  | zero => intro _; exact Nat.zero_le _
  | succ n ih =>
    intro hn
    have hx : l[n]? = some l[n] := List.getElem?_eq_getElem (by omega)
    obtain ⟨a, b, c, d⟩ := vl_at h hx
    rw [List.take_succ_eq_append_getElem (by omega), cnt_snoc]
    have h1 := ih (by omega)
    by_cases g : (l[n]).kind ≠ 0 ∧ (l[n]).par = (i : Int) ∧ (l[n]).side = s
    · rw [if_pos g]
      have ht := (placeE_parts d g.1).2.2.2.2
      have hz : cntE (l.take n) i s = 0 := by
        unfold cntE
        rw [List.length_eq_zero_iff, List.filter_eq_nil_iff]
        intro y hy hb
        unfold takenE at ht
        rw [List.any_eq_false] at ht
        rw [Bool.and_eq_true, Bool.and_eq_true, decide_eq_true_eq, decide_eq_true_eq] at hb
        apply ht y hy
        rw [Bool.and_eq_true, decide_eq_true_eq, decide_eq_true_eq]
        exact ⟨by rw [hb.2.1, g.2.1], by rw [hb.2.2, g.2.2]⟩
      omega
    · rw [if_neg g]; omega
theorem cnt_kind {l : List El} (h : vlE [] l = 0) {i : Nat} (hi : i < l.length) {s : Int} (hs : (l.getD i zeroE).kind = 4 ∨ ¬ (s ≠ 0 ↔ (l.getD i zeroE).kind = 3)) : cntE l i s = 0 := by
  unfold cntE
  rw [List.length_eq_zero_iff, List.filter_eq_nil_iff]
  intro y hy hb
  rw [Bool.and_eq_true, Bool.and_eq_true, decide_eq_true_eq, decide_eq_true_eq] at hb
  obtain ⟨k, hk⟩ := List.mem_iff_getElem?.1 hy
  have hlt := (List.getElem?_eq_some_iff.1 hk).1
  obtain ⟨a, b, c, d⟩ := vl_at h hk
  have hk0 : y.kind ≠ 0 := by simpa using hb.1
  obtain ⟨p1, p2, p3, p4, _⟩ := placeE_parts d hk0
  rw [List.length_take] at p2
  have e : (l.take k).getD y.par.toNat zeroE = l.getD i zeroE := by
    rw [List.getD_eq_getElem?_getD, List.getElem?_take_of_lt (by omega), ← List.getD_eq_getElem?_getD]
    congr 1
    omega
  rw [e] at p3 p4
  rw [hb.2.2] at p4
  rcases hs with hs | hs
  · exact p3 hs
  · exact hs p4
theorem fullE_geN {l : List El} : ∀ (n : Nat), fullE l n = true → ∀ j, j < n → needK ((l.getD j zeroE).kind) ≤ (kids l j : Int)
  | 0, _, j, hj => absurd hj (by omega)
  | n + 1, h, j, hj => by
    have h' : (fullE l n && decide (needK ((l.getD n zeroE).kind) ≤ (kids l n : Int))) = true := h
    rw [Bool.and_eq_true, decide_eq_true_eq] at h'
    by_cases e : j = n
    · subst e; exact h'.2
    · exact fullE_geN n h'.1 j (by omega)
theorem count_valid {l : List El} (hv : validE l = 0) : trks l = sws l + 1 ∧ vlE [] l = 0 ∧ 1 ≤ l.length ∧ l.length ≤ 128 := by
  obtain ⟨h, hf, hn, h128⟩ : vlE [] l = 0 ∧ fullE l l.length = true ∧ 1 ≤ l.length ∧ l.length ≤ 128 := by
    unfold validE at hv
    by_cases h1 : 128 < l.length
    · rw [if_pos h1] at hv; cases hv
    · rw [if_neg h1] at hv
      by_cases h2 : l.length = 0
      · rw [if_pos h2] at hv; cases hv
      · rw [if_neg h2] at hv
        by_cases h3 : vlE [] l = 0
        · rw [if_pos h3] at hv
          unfold treeE at hv
          by_cases h4 : fullE l l.length = false
          · rw [if_pos h4] at hv; cases hv
          · exact ⟨h3, by simpa using h4, by omega, by omega⟩
        · rw [if_neg h3] at hv; exact absurd hv h3
  have hside : ∀ x ∈ l, x.kind = 0 ∨ (0 ≤ x.side ∧ x.side ≤ 2) := fun x hx => by
    obtain ⟨k, hk⟩ := List.mem_iff_getElem?.1 hx
    exact Or.inr (soundE_side (vl_at h hk).1)
  have hpar : ∀ x ∈ l, x.kind = 0 ∨ (0 ≤ x.par ∧ x.par < (l.length : Int)) := fun x hx => by
    obtain ⟨k, hk⟩ := List.mem_iff_getElem?.1 hx
    have hlt := (List.getElem?_eq_some_iff.1 hk).1
    rcases par_lt h hk with ⟨_, _, e, _⟩ | ⟨_, _, e, f⟩
    · exact Or.inl e
    · exact Or.inr ⟨e, by omega⟩
  have heq : ∀ i, i < l.length → kids l i = needN (l.getD i zeroE).kind := fun i hi => by
    have h1 := fullE_geN _ hf i hi
    rw [← needN_K] at h1
    have hc := kids_cnt l i hside
    have c0 := cnt_le h i 0 l.length (Nat.le_refl _)
    have c1 := cnt_le h i 1 l.length (Nat.le_refl _)
    have c2 := cnt_le h i 2 l.length (Nat.le_refl _)
    rw [List.take_length] at c0 c1 c2
    unfold needN at h1 ⊢
    by_cases g3 : (l.getD i zeroE).kind = 3
    · rw [if_pos g3] at h1 ⊢
      have z := cnt_kind h hi (s := 0) (Or.inr (fun q => (q.2 g3) rfl))
      omega
    · rw [if_neg g3] at h1 ⊢
      have z1 := cnt_kind h hi (s := 1) (Or.inr (fun q => g3 (q.1 (by decide))))
      have z2 := cnt_kind h hi (s := 2) (Or.inr (fun q => g3 (q.1 (by decide))))
      by_cases g4 : (l.getD i zeroE).kind = 4
      · rw [if_pos g4] at h1 ⊢
        have z := cnt_kind h hi (s := 0) (Or.inl g4)
        omega
      · rw [if_neg g4] at h1 ⊢
        omega
  have s1 := kids_sum l.length l hpar
  have s2 := need_sum l l.length (Nat.le_refl _)
  rw [List.take_length, ← sumN_congr heq, s1] at s2
  have s3 := notC_valid h
  rw [if_neg (by omega)] at s3
  exact ⟨by omega, h, hn, h128⟩
end Go.Proofs.YteeoecegpnmafaaGreatDoor
