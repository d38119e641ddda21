/-
  Stage 16: stable sorting, plain: insertion, and the merging of two sorted pieces, where what is later is asked against what is earlier.
-/
import Derived.Test.YtknkgcphamhjlaaRows
import Derived.Sort.LotA
import Derived.Sort.WalkA
set_option linter.unusedSimpArgs false
set_option linter.unusedVariables false
namespace Go.Proofs.Ytknkgcphamhjlaa
open Go.Sort

section
variable {α : Type} [Inhabited α]
theorem get_cut (A C : List α) (u : α) (i : Nat) (hi : i = A.length) : (A ++ u :: C).toArray[i]! = u := by
  subst hi; simp [getElem!_def]
theorem swp_cut (A B C : List α) (u v : α) (i j : Nat) (hi : i = A.length) (hj : j = A.length + 1 + B.length) : swp (A ++ u :: (B ++ v :: C)).toArray i j = (A ++ v :: (B ++ u :: C)).toArray := by
  have e1 := get_cut A (B ++ v :: C) u i hi
  have e2 : (A ++ u :: (B ++ v :: C)).toArray[j]! = v := by
    have := get_cut (A ++ u :: B) C v j (by rw [hj]; simp; omega)
    simpa using this
  unfold swp
  rw [e1, e2]
  subst hi; subst hj
  have e3 : A.length + 1 + B.length = A.length + (1 + B.length) := by omega
  have e4 : 1 + B.length - 1 = B.length := by omega
  simp [List.set_append, e3, List.set_cons_succ, Nat.add_comm 1 B.length]
theorem swp_cut' (A B C : List α) (u v : α) (i j : Nat) (hi : i = A.length) (hj : j = A.length + 1 + B.length) : swp (A ++ u :: (B ++ v :: C)).toArray j i = (A ++ v :: (B ++ u :: C)).toArray := by
  rw [← swp_cut A B C u v i j hi hj]
  have hne : i ≠ j := by omega
  unfold swp
  rw [Array.setIfInBounds_comm _ _ (Ne.symm hne)]

theorem last_at (A C : List α) {y : List α} {u : α} (h : y.getLast? = some u) (i : Nat) (hi : i = A.length + y.length - 1) : (A ++ (y ++ C)).toArray[i]! = u := by
  rcases List.eq_nil_or_concat y with rfl | ⟨ys, z, rfl⟩
  · simp at h
  · rw [List.concat_eq_append] at *
    simp at h
    subst h
    have := get_cut (A ++ ys) C z i (by rw [hi]; simp)
    simpa using this
theorem head_at (A C : List α) {y : List α} {v : α} (h : y.head? = some v) (i : Nat) (hi : i = A.length) : (A ++ (y ++ C)).toArray[i]! = v := by
  cases y with
  | nil => simp at h
  | cons z ys =>
    simp at h; subst h
    exact get_cut A (ys ++ C) z i hi
theorem mem_at (A C y : List α) (i : Nat) (h1 : A.length ≤ i) (h2 : i < A.length + y.length) : (A ++ (y ++ C)).toArray[i]! ∈ y := by
  have : (A ++ (y ++ C)).toArray[i]! = y[i - A.length]'(by omega) := by
    simp only [getElem!_def, List.getElem?_toArray]
    rw [List.getElem?_append_right h1, List.getElem?_append_left (by omega), List.getElem?_eq_getElem (by omega)]
  rw [this]
  exact List.getElem_mem _

variable {lt : α → α → Bool} {R : α → α → Prop}
/-- u stands ahead of v: asked whether v comes before u, the comparison tells the order. -/
def Cr (lt : α → α → Bool) (R : α → α → Prop) (u v : α) : Prop := (lt v u = true → R v u) ∧ (lt v u = false → R u v)

theorem insInner_list (hT : ∀ x y z, R x y → R y z → R x z) (p : List α) (e : α) : ∀ (n : Nat) (u v : List α), u.length = n → u.Pairwise R → (∀ x ∈ u, Cr lt R x e) →
    ∃ u1 u2, u = u1 ++ u2 ∧ insInner lt p.length (p.length + n) (p ++ (u ++ e :: v)).toArray = (p ++ (u1 ++ e :: (u2 ++ v))).toArray ∧ (∀ x ∈ u1, R x e) ∧ ∀ x ∈ u2, R e x
  | 0, u, v, hn, _, _ => by
    obtain rfl : u = [] := List.eq_nil_of_length_eq_zero hn
    exact ⟨[], [], rfl, by rw [insInner_stop _ _ _ _ (Or.inl (by omega))]; rfl, by simp, by simp⟩
  | n + 1, u, v, hn, hp, hc => by
    rcases List.eq_nil_or_concat u with rfl | ⟨u0, z, rfl⟩
    · simp at hn
    · rw [List.concat_eq_append] at *
      have hn0 : u0.length = n := by simp at hn; exact hn
      have g1 : (p ++ (u0 ++ [z] ++ e :: v)).toArray[p.length + (n + 1)]! = e := by
        have := get_cut (p ++ (u0 ++ [z])) v e (p.length + (n + 1)) (by simp; omega)
        simpa using this
      have g0 : (p ++ (u0 ++ [z] ++ e :: v)).toArray[p.length + (n + 1) - 1]! = z := by
        have := get_cut (p ++ u0) (e :: v) z (p.length + (n + 1) - 1) (by simp; omega)
        simpa using this
      rw [List.pairwise_append] at hp
      cases h : lt e z with
      | true =>
        rw [insInner_go lt _ _ _ (by omega) (by rw [g1, g0]; exact h)]
        have e1 : swp (p ++ (u0 ++ [z] ++ e :: v)).toArray (p.length + (n + 1)) (p.length + (n + 1) - 1) = (p ++ (u0 ++ e :: (z :: v))).toArray := by
          have := swp_cut' (p ++ u0) [] v z e (p.length + (n + 1) - 1) (p.length + (n + 1)) (by simp; omega) (by simp; omega)
          simpa using this
        rw [e1, show p.length + (n + 1) - 1 = p.length + n by omega]
        obtain ⟨u1, u2, rfl, he, h1, h2⟩ := insInner_list hT p e n u0 (z :: v) hn0 hp.1 (fun x hx => hc x (by simp [hx]))
        refine ⟨u1, u2 ++ [z], by simp, by rw [he]; simp, h1, fun x hx => ?_⟩
        rcases List.mem_append.1 hx with hx | hx
        · exact h2 x hx
        · rw [List.mem_singleton] at hx; subst hx
          exact (hc x (by simp)).1 h
      | false =>
        rw [insInner_stop _ _ _ _ (Or.inr (by rw [g1, g0]; exact h))]
        have hz := (hc z (by simp)).2 h
        refine ⟨u0 ++ [z], [], by simp, by simp, fun x hx => ?_, by simp⟩
        rcases List.mem_append.1 hx with hx | hx
        · exact hT _ _ _ (hp.2.2 x hx z (by simp)) hz
        · rw [List.mem_singleton] at hx; subst hx; exact hz

theorem insOuter_list (hT : ∀ x y z, R x y → R y z → R x z) (p q : List α) : ∀ (s2 s1 : List α), s1.Pairwise R → s2.Pairwise (Cr lt R) → (∀ x ∈ s1, ∀ y ∈ s2, Cr lt R x y) →
    ∃ z, z.Perm (s1 ++ s2) ∧ z.Pairwise R ∧ insOuter lt p.length (p.length + s1.length + s2.length) (p.length + s1.length) (p ++ (s1 ++ (s2 ++ q))).toArray = (p ++ (z ++ q)).toArray
  | [], s1, h1, _, _ => ⟨s1, by simp, h1, by rw [insOuter_stop _ _ _ _ _ (by simp)]; simp⟩
  | e :: s2, s1, h1, h2, h3 => by
    rw [List.pairwise_cons] at h2
    obtain ⟨u1, u2, rfl, he, g1, g2⟩ := insInner_list hT p e s1.length s1 (s2 ++ q) rfl h1 (fun x hx => h3 x hx e (by simp))
    rw [List.pairwise_append] at h1
    have hp : (u1 ++ e :: u2).Pairwise R := by
      rw [List.pairwise_append, List.pairwise_cons]
      refine ⟨h1.1, ⟨g2, h1.2.1⟩, fun a ha b hb => ?_⟩
      rcases List.mem_cons.1 hb with rfl | hb
      · exact g1 a ha
      · exact h1.2.2 a ha b hb
    obtain ⟨z, z1, z2, z3⟩ := insOuter_list hT p q s2 (u1 ++ e :: u2) hp h2.2 (fun x hx y hy => by
      rcases List.mem_append.1 hx with hx | hx
      · exact h3 x (by simp [hx]) y (by simp [hy])
      · rcases List.mem_cons.1 hx with rfl | hx
        · exact h2.1 y hy
        · exact h3 x (by simp [hx]) y (by simp [hy]))
    refine ⟨z, ?_, z2, ?_⟩
    · refine z1.trans ?_
      rw [List.append_assoc, List.append_assoc]
      refine List.Perm.append_left _ ?_
      rw [List.cons_append]
      exact List.perm_middle.symm
    · rw [insOuter_go _ _ _ _ _ (by simp)]
      have : (p ++ (u1 ++ u2 ++ (e :: s2 ++ q))).toArray = (p ++ (u1 ++ u2 ++ e :: (s2 ++ q))).toArray := by simp
      rw [this, he]
      have e1 : p.length + (u1 ++ u2).length + (e :: s2).length = p.length + (u1 ++ e :: u2).length + s2.length := by simp; omega
      have e2 : p.length + (u1 ++ u2).length + 1 = p.length + (u1 ++ e :: u2).length := by simp; omega
      rw [e1, e2, ← z3]
      simp
/-- insertion sorts a piece, and keeps equals as they stood. -/
theorem insertion_list (hT : ∀ x y z, R x y → R y z → R x z) (p s q : List α) (hs : s.Pairwise (Cr lt R)) :
    ∃ z, z.Perm s ∧ z.Pairwise R ∧ insertionSort lt (p ++ (s ++ q)).toArray p.length (p.length + s.length) = (p ++ (z ++ q)).toArray := by
  unfold insertionSort
  cases s with
  | nil => exact ⟨[], List.Perm.refl _, List.Pairwise.nil, by rw [insOuter_stop _ _ _ _ _ (by simp)]⟩
  | cons e s =>
    rw [List.pairwise_cons] at hs
    obtain ⟨z, z1, z2, z3⟩ := insOuter_list (lt := lt) hT p q s [e] (by simp) hs.2 (fun x hx y hy => by rw [List.mem_singleton] at hx; subst hx; exact hs.1 y hy)
    refine ⟨z, z1, z2, ?_⟩
    rw [← z3]
    have e1 : p.length + [e].length + s.length = p.length + (e :: s).length := by simp; omega
    rw [← e1]
    rfl

omit [Inhabited α] in
theorem last_all {xs : List α} (h : xs.Pairwise R) {z : α} (hz : xs.getLast? = some z) : ∀ u ∈ xs, u = z ∨ R u z := by
  rcases List.eq_nil_or_concat xs with rfl | ⟨ys, y, rfl⟩
  · simp at hz
  · rw [List.concat_eq_append] at *
    simp at hz
    subst hz
    rw [List.pairwise_append] at h
    intro u hu
    rcases List.mem_append.1 hu with hu | hu
    · exact Or.inr (h.2.2 u hu _ (by simp))
    · exact Or.inl (by simpa using hu)
omit [Inhabited α] in
theorem head_all {xs : List α} (h : xs.Pairwise R) {z : α} (hz : xs.head? = some z) : ∀ u ∈ xs, u = z ∨ R z u := by
  cases xs with
  | nil => simp at hz
  | cons y ys =>
    simp at hz; subst hz
    rw [List.pairwise_cons] at h
    intro u hu
    rcases List.mem_cons.1 hu with rfl | hu
    · exact Or.inl rfl
    · exact Or.inr (h.1 u hu)
omit [Inhabited α] in
theorem ends_all (hT : ∀ x y z, R x y → R y z → R x z) {xs ys : List α} (hx : xs.Pairwise R) (hy : ys.Pairwise R) (h : ∀ u v, xs.getLast? = some u → ys.head? = some v → R u v) : ∀ u ∈ xs, ∀ v ∈ ys, R u v := by
  intro u hu v hv
  cases hl : xs.getLast? with
  | none => rw [List.getLast?_eq_none_iff] at hl; subst hl; cases hu
  | some a =>
    cases hh : ys.head? with
    | none => rw [List.head?_eq_none_iff] at hh; subst hh; cases hv
    | some b =>
      have hab := h a b hl hh
      rcases last_all hx hl u hu with rfl | h1 <;> rcases head_all hy hh v hv with rfl | h2
      · exact hab
      · exact hT _ _ _ hab h2
      · exact hT _ _ _ h1 hab
      · exact hT _ _ _ h1 (hT _ _ _ hab h2)
omit [Inhabited α] in
theorem ins_one (hT : ∀ x y z, R x y → R y z → R x z) {y1 y2 : List α} {e : α} (hy : (y1 ++ y2).Pairwise R) (h1 : ∀ u, y1.getLast? = some u → R u e) (h2 : ∀ v, y2.head? = some v → R e v) : (y1 ++ e :: y2).Pairwise R := by
  rw [List.pairwise_append] at hy
  have a1 := ends_all hT hy.1 (ys := [e]) (by simp) (fun u v hu hv => by simp at hv; subst hv; exact h1 u hu)
  have a2 := ends_all hT (xs := [e]) (by simp) hy.2.1 (fun u v hu hv => by simp at hu; subst hu; exact h2 v hv)
  rw [List.pairwise_append, List.pairwise_cons]
  refine ⟨hy.1, ⟨fun b hb => a2 e (by simp) b hb, hy.2.1⟩, fun a ha b hb => ?_⟩
  rcases List.mem_cons.1 hb with rfl | hb
  · exact a1 a ha _ (by simp)
  · exact hy.2.2 a ha b hb
omit [Inhabited α] in
/-- Two sorted pieces, each cut in two, put together crosswise. -/
theorem merge_cut (hT : ∀ x y z, R x y → R y z → R x z) {x1 x2 y1 y2 z1 z2 : List α} (hx : (x1 ++ x2).Pairwise R) (hy : (y1 ++ y2).Pairwise R)
    (h1 : ∀ u v, x1.getLast? = some u → y2.head? = some v → R u v) (h2 : ∀ u v, y1.getLast? = some u → x2.head? = some v → R u v)
    (p1 : z1.Perm (x1 ++ y1)) (p2 : z2.Perm (x2 ++ y2)) (s1 : z1.Pairwise R) (s2 : z2.Pairwise R) : (z1 ++ z2).Perm ((x1 ++ x2) ++ (y1 ++ y2)) ∧ (z1 ++ z2).Pairwise R := by
  rw [List.pairwise_append] at hx hy
  have a1 := ends_all hT hx.1 hy.2.1 h1
  have a2 := ends_all hT hy.1 hx.2.1 h2
  refine ⟨?_, ?_⟩
  · refine (p1.append p2).trans ?_
    rw [List.append_assoc, List.append_assoc]
    refine List.Perm.append_left _ ?_
    rw [← List.append_assoc, ← List.append_assoc]
    exact List.Perm.append_right _ List.perm_append_comm
  · rw [List.pairwise_append]
    refine ⟨s1, s2, fun u hu v hv => ?_⟩
    have hu := p1.mem_iff.1 hu
    have hv := p2.mem_iff.1 hv
    rcases List.mem_append.1 hu with hu | hu <;> rcases List.mem_append.1 hv with hv | hv
    · exact hx.2.2 u hu v hv
    · exact a1 u hu v hv
    · exact a2 u hu v hv
    · exact hy.2.2 u hu v hv
end
end Go.Proofs.Ytknkgcphamhjlaa
