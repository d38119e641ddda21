/-
  Stage 13: what the least codes are good for, in plain words.
-/
import Derived.Test.YtkopbnppjhdbgaaYSol
import Derived.Test.YtkopbnppjhdbgaaJTop
set_option linter.unusedSimpArgs false
set_option linter.unusedVariables false
namespace Go.Proofs.Ytkopbnppjhdbgaa
open Go.RowKit

/-- Either all items have codes, or there is one whose base has none. -/
theorem sol_or {l : List It} {wt : Int} (hb : BlkOk l) : (∃ bs v, Sol l wt bs v) ∨ ∃ S bs v y M, PSol l wt S bs v ∧ y < l.length ∧ (∀ x, x < l.length → rel l x y ≠ 0 → S x) ∧ IsMaxP (fun x => x < l.length) (fun x => via l v x y) M ∧ (nextZ M (rnd l y) wt).2 ≠ 0 := by
  obtain ⟨O, hO⟩ : ∃ O, O = ordN l 32 := ⟨_, rfl⟩
  have hall : ∀ y, (∃ z ∈ O, z.1 = y) ↔ y < l.length := fun y => by rw [hO]; exact ord_all hb y
  have hnext : ∀ (n : Nat) (z : Ix l), O.take (n + 1) = O.take n ++ [z] → (∀ x, x < l.length → rel l x z.1 ≠ 0 → ∃ a ∈ O.take n, a.1 = x) ∧ ¬ ∃ a ∈ O.take n, a.1 = z.1 := fun n z ht => by
    have := ord_next hb (pre := O.take n) (z := z) (by rw [← ht, ← hO]; exact List.take_prefix _ _)
    exact this.2
  clear hO
  have key : ∀ n, n ≤ O.length → (∃ bs v, PSol l wt (fun y => ∃ z ∈ O.take n, z.1 = y) bs v) ∨ ∃ S bs v y M, PSol l wt S bs v ∧ y < l.length ∧ (∀ x, x < l.length → rel l x y ≠ 0 → S x) ∧ IsMaxP (fun x => x < l.length) (fun x => via l v x y) M ∧ (nextZ M (rnd l y) wt).2 ≠ 0 := by
    intro n
    induction n with
    | zero => intro _; exact Or.inl ⟨_, _, (PSol.start l wt).congr (fun y => by simp)⟩
    | succ n ih =>
      intro hn
      rcases ih (by omega) with ⟨bs, v, h⟩ | h
      · have ht : O.take (n + 1) = O.take n ++ [O[n]] := by rw [List.take_succ_eq_append_getElem (by omega)]
        obtain ⟨z, hz⟩ : ∃ z, z = O[n] := ⟨_, rfl⟩
        rw [← hz] at ht
        clear hz
        obtain ⟨h2, h3⟩ := hnext n z ht
        have hM := bmx_max l v z.1 l.length
        by_cases g : (nextZ (bmx l v z.1 0 l.length) (rnd l z.1) wt).2 = 0
        · obtain ⟨⟨k, er⟩, hk⟩ : ∃ t, nextZ (bmx l v z.1 0 l.length) (rnd l z.1) wt = t := ⟨_, rfl⟩
          rw [hk] at g
          have g' : er = 0 := g
          subst g'
          refine Or.inl ⟨_, _, (h.step z.2 h3 h2 hM hk).congr (fun y => ?_)⟩
          rw [ht]
          constructor
          · rintro (⟨a, ha, e⟩ | e)
            · exact ⟨a, List.mem_append_left _ ha, e⟩
            · exact ⟨_, List.mem_append_right _ (List.mem_singleton.2 rfl), e.symm⟩
          · rintro ⟨a, ha, e⟩
            rcases List.mem_append.1 ha with ha | ha
            · exact Or.inl ⟨a, ha, e⟩
            · rw [List.mem_singleton] at ha; subst ha; exact Or.inr e.symm
        · exact Or.inr ⟨_, bs, v, _, _, h, z.2, h2, hM, g⟩
      · exact Or.inr h
  rcases key _ (Nat.le_refl _) with ⟨bs, v, h⟩ | h
  · rw [List.take_length] at h
    exact Or.inl ⟨bs, v, h.congr hall⟩
  · exact Or.inr h
/-- Codes of the forms that satisfy all relations. -/
structure Plan (l : List It) (wt : Int) (u : List Int) : Prop where
  code : ∀ y, y < l.length → ∃ K : Nat, u.getD y 0 = K ∧ isC (rnd l y).toNat wt.toNat K = true
  sort : ∀ x y, x < l.length → y < l.length → via l u x y ≤ u.getD y 0
theorem via_le {l : List It} {v u : List Int} {x y : Nat} (h : rel l x y ≠ 0 → v.getD x 0 ≤ u.getD x 0) : via l v x y ≤ via l u x y := by
  by_cases e : rel l x y = 0
  · rw [via_zero e, via_zero e]; exact Int.le_refl _
  · rw [via_pos e, via_pos e]; have := h e; omega
/-- Where a code lies at or above a number, next finds one up to it. -/
theorem next_code_le {n r wt : Int} {K : Nat} (hn : 0 ≤ n) (hr : 0 ≤ r ∧ r ≤ 12) (hw : 0 ≤ wt ∧ wt ≤ 12) (hk : n ≤ K) (hc : isC r.toNat wt.toNat K = true) : ∃ j, nextZ n r wt = (j, 0) ∧ j ≤ K := by
  rcases nextI hn hr hw with ⟨J, e', g1, g2, g3, g4⟩ | ⟨e', g⟩
  · refine ⟨J, e', ?_⟩
    rcases Nat.lt_or_ge K J with c | c
    · have := g4 K hk c
      rw [hc] at this; cases this
    · omega
  · have := g K hk
    rw [hc] at this; cases this
theorem PSol.least {l : List It} {wt : Int} {S : Nat → Prop} {bs v u : List Int} (hf : FormOk l wt) (h : PSol l wt S bs v) (hu : Plan l wt u) : ∀ y, S y → bs.getD y 0 ≤ u.getD y 0 ∧ v.getD y 0 ≤ u.getD y 0 := by
  have key : ∀ (n : Nat) (y : Nat), S y → blk l y < n → bs.getD y 0 ≤ u.getD y 0 ∧ v.getD y 0 ≤ u.getD y 0 := by
    intro n
    induction n with
    | zero => intro y hy hn; have := (hf.blk y (h.sub y hy)).1; omega
    | succ n ih =>
      intro y hy hn
      have hyl := h.sub y hy
      obtain ⟨K, hK, hc⟩ := hu.code y hyl
      have h1 : bs.getD y 0 ≤ u.getD y 0 := by
        rcases (h.base y hy).hit with e | ⟨x, hx, e⟩
        · omega
        · have e' : via l v x y = bs.getD y 0 := e
          have h2 := hu.sort x y hx hyl
          have h3 := via_le (l := l) (v := v) (u := u) (x := x) (y := y) (fun g => (ih x (h.down x y hy hx g) (by have := (rel_pos g).2; omega)).2)
          omega
      refine ⟨h1, ?_⟩
      obtain ⟨j, hj, hjk⟩ := next_code_le (h.base y hy).pos (hf.rb y hyl) hf.wb (by rw [← hK]; exact h1) hc
      rw [h.code y hy] at hj
      injection hj with hj
      omega
  intro y hy
  exact key 32 y hy (by have := (hf.blk y (h.sub y hy)).2; omega)
/-- Where there is a plan, there are least codes. -/
theorem sol_ex {l : List It} {wt : Int} {u : List Int} (hf : FormOk l wt) (hu : Plan l wt u) : ∃ bs v, Sol l wt bs v := by
  rcases sol_or (wt := wt) hf.blk with h | ⟨S, bs, v, y, M, h, hy, hd, hM, he⟩
  · exact h
  · exfalso
    obtain ⟨K, hK, hc⟩ := hu.code y hy
    have h1 : M ≤ u.getD y 0 := by
      rcases hM.hit with e | ⟨x, hx, e⟩
      · omega
      · have e' : via l v x y = M := e
        have h2 := hu.sort x y hx hy
        have h3 := via_le (l := l) (v := v) (u := u) (x := x) (y := y) (fun g => (h.least hf hu x (hd x hx g)).2)
        omega
    obtain ⟨j, hj, _⟩ := next_code_le hM.pos (hf.rb y hy) hf.wb (by rw [← hK]; exact h1) hc
    rw [hj] at he
    exact he rfl
/-- The least codes are a plan. -/
theorem Sol.plan {l : List It} {wt : Int} {bs v : List Int} (hf : FormOk l wt) (h : Sol l wt bs v) : Plan l wt v := by
  refine ⟨fun y hy => ?_, fun x y hx hy => ?_⟩
  · have hc := h.code y hy
    rcases nextI (h.base y hy).pos (hf.rb y hy) hf.wb with ⟨J, e', g1, g2, g3, g4⟩ | ⟨e', g⟩
    · rw [e'] at hc
      injection hc with hc
      exact ⟨J, hc.symm, g3⟩
    · rw [e'] at hc
      injection hc with _ hc
      omega
  · have h1 : via l v x y ≤ bs.getD y 0 := (h.base y hy).le x hx
    have h2 := (h.bound hf y).2.2
    omega
/-- More weight. -/
theorem Plan.more {l : List It} {wt wt' : Int} {u : List Int} (h : Plan l wt u) (hw : wt.toNat ≤ wt'.toNat) : Plan l wt' u :=
  ⟨fun y hy => by
    obtain ⟨K, hK, hc⟩ := h.code y hy
    obtain ⟨c1, c2, c3⟩ := isC_iff.1 hc
    exact ⟨K, hK, isC_iff.2 ⟨c1, c2, by omega⟩⟩, h.sort⟩
/-- The greatest of lists of which one lies below the other. -/
theorem TopV.mono {v u : List Int} {k : Nat} {M N : Int} (h : TopV v k M) (g : TopV u k N) (hle : ∀ y, y < k → v.getD y 0 ≤ u.getD y 0) : M ≤ N := by
  obtain ⟨x, hx, e⟩ := h.hit
  have := hle x hx
  have := g.le x hx
  omega
theorem lnF_mono (f : Nat) : ∀ a b, a ≤ b → lnF f a ≤ lnF f b := by
  induction f with
  | zero => intro a b _; exact Nat.le_refl _
  | succ f ih =>
    intro a b h
    have := ih (a / 2) (b / 2) (Nat.div_le_div_right h)
    unfold lnF
    split
    · omega
    · split
      · omega
      · omega
theorem ln_mono {a b : Nat} (h : a ≤ b) : ln a ≤ ln b := lnF_mono 12 a b h
end Go.Proofs.Ytkopbnppjhdbgaa
