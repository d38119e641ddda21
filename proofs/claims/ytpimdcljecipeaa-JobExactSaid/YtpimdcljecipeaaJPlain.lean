/-
  Stage 11: levels and chains, in plain words.
-/
import Derived.Test.YtpimdcljecipeaaJIt
set_option linter.unusedSimpArgs false
set_option linter.unusedVariables false
namespace Go.Proofs.Ytpimdcljecipeaa
open Go.RowKit

/-- The train and the block of item x. -/
def trn (l : List It) (x : Nat) : Int := (l.getD x it0).1
def blk (l : List It) (x : Nat) : Int := (l.getD x it0).2.1
/-- How x comes before y: 0 not, 1 weakly, 2 strictly. -/
def rel (l : List It) (x y : Nat) : Int := if trn l x ≠ trn l y ∨ blk l y ≤ blk l x then 0 else if y < x then 2 else 1
theorem rel_cases (l : List It) (x y : Nat) : rel l x y = 0 ∨ rel l x y = 1 ∨ rel l x y = 2 := by
  unfold rel; split
  · exact Or.inl rfl
  · split
    · exact Or.inr (Or.inr rfl)
    · exact Or.inr (Or.inl rfl)
theorem rel_pos {l : List It} {x y : Nat} (h : rel l x y ≠ 0) : trn l x = trn l y ∧ blk l x < blk l y := by
  unfold rel at h; split at h
  · exact absurd rfl h
  · rename_i g
    refine ⟨Decidable.byContradiction fun e => g (Or.inl e), ?_⟩
    exact Int.not_le.1 fun e => g (Or.inr e)
theorem rel_ge {l : List It} {x y : Nat} (h : blk l y ≤ blk l x) : rel l x y = 0 := if_pos (Or.inr h)
/-- The level that y needs because of x. -/
def via (l : List It) (v : List Int) (x y : Nat) : Int := if rel l x y = 2 then v.getD x 0 + 1 else if rel l x y = 1 then v.getD x 0 else 0
theorem via_zero {l : List It} {v : List Int} {x y : Nat} (h : rel l x y = 0) : via l v x y = 0 := by
  unfold via; rw [if_neg (by omega), if_neg (by omega)]
theorem via_pos {l : List It} {v : List Int} {x y : Nat} (h : rel l x y ≠ 0) : via l v x y = v.getD x 0 + (rel l x y - 1) := by
  unfold via
  rcases rel_cases l x y with e | e | e
  · exact absurd e h
  · rw [if_neg (by omega), if_pos e, e]; omega
  · rw [if_pos e, e]; omega
/-- What is read of the levels lies before y. -/
theorem via_same {l : List It} {v v' : List Int} {x y : Nat} (h : rel l x y ≠ 0 → v.getD x 0 = v'.getD x 0) : via l v x y = via l v' x y := by
  by_cases e : rel l x y = 0
  · rw [via_zero e, via_zero e]
  · rw [via_pos e, via_pos e, h e]
/-- M is the greatest of 0 and f at those of which p holds. -/
structure IsMaxP (p : Nat → Prop) (f : Nat → Int) (M : Int) : Prop where
  pos : 0 ≤ M
  le : ∀ x, p x → f x ≤ M
  hit : M = 0 ∨ ∃ x, p x ∧ f x = M
theorem IsMaxP.uniq {p : Nat → Prop} {f g : Nat → Int} {M N : Int} (h : IsMaxP p f M) (k : IsMaxP p g N) (e : ∀ x, p x → f x = g x) : M = N := by
  have h1 := h.pos; have k1 := k.pos
  have a : M ≤ N := by
    rcases h.hit with e0 | ⟨x, hx, hf⟩
    · omega
    · have := k.le x hx; rw [← e x hx] at this; omega
  have b : N ≤ M := by
    rcases k.hit with e0 | ⟨x, hx, hf⟩
    · omega
    · have := h.le x hx; rw [e x hx] at this; omega
  omega
theorem IsMaxP.start (f : Nat → Int) : IsMaxP (fun x => x < 0) f 0 := ⟨Int.le_refl _, fun x h => absurd h (Nat.not_lt_zero x), Or.inl rfl⟩
theorem IsMaxP.congr {p q : Nat → Prop} {f g : Nat → Int} {M : Int} (h : IsMaxP p f M) (hp : ∀ x, p x ↔ q x) (hf : ∀ x, q x → f x = g x) : IsMaxP q g M := by
  refine ⟨h.pos, fun x hx => by rw [← hf x hx]; exact h.le x ((hp x).2 hx), ?_⟩
  rcases h.hit with e | ⟨x, hx, e⟩
  · exact Or.inl e
  · exact Or.inr ⟨x, (hp x).1 hx, by rw [← hf x ((hp x).1 hx)]; exact e⟩
/-- One more is looked at. -/
theorem IsMaxP.more {p q : Nat → Prop} {f : Nat → Int} {M N : Int} {y : Nat} (h : IsMaxP p f M) (hq : ∀ x, q x ↔ p x ∨ x = y) (hN : N = if M < f y then f y else M) : IsMaxP q f N := by
  have hp := h.pos
  refine ⟨?_, fun x hx => ?_, ?_⟩
  · rw [hN]; split <;> omega
  · rcases (hq x).1 hx with g | rfl
    · have := h.le x g; rw [hN]; split <;> omega
    · rw [hN]; split <;> omega
  · rw [hN]; split
    · exact Or.inr ⟨y, (hq y).2 (Or.inr rfl), rfl⟩
    · rcases h.hit with e | ⟨x, hx, e⟩
      · exact Or.inl e
      · exact Or.inr ⟨x, (hq x).2 (Or.inl hx), e⟩
/-- More are looked at, of which f is not above 0. -/
theorem IsMaxP.wide {p q : Nat → Prop} {f : Nat → Int} {M : Int} (h : IsMaxP p f M) (hq : ∀ x, p x → q x) (hn : ∀ x, q x → p x ∨ f x ≤ 0) : IsMaxP q f M := by
  refine ⟨h.pos, fun x hx => ?_, ?_⟩
  · rcases hn x hx with g | g
    · exact h.le x g
    · have := h.pos; omega
  · rcases h.hit with e | ⟨x, hx, e⟩
    · exact Or.inl e
    · exact Or.inr ⟨x, hq x hx, e⟩
/-- v are the levels of l. -/
structure Lev (l : List It) (v : List Int) : Prop where
  len : v.length = l.length
  max : ∀ y, y < l.length → IsMaxP (fun x => x < l.length) (fun x => via l v x y) (v.getD y 0)
/-- All blocks are from 0 to 31. -/
def BlkOk (l : List It) : Prop := ∀ y, y < l.length → 0 ≤ blk l y ∧ blk l y ≤ 31
theorem lev_uniq {l : List It} {v v' : List Int} (hb : BlkOk l) (h : Lev l v) (k : Lev l v') : v = v' := by
  have key : ∀ (n : Nat) (y : Nat), y < l.length → blk l y < n → v.getD y 0 = v'.getD y 0 := by
    intro n
    induction n with
    | zero => intro y hy hn; have := (hb y hy).1; omega
    | succ n ih =>
      intro y hy hn
      refine (h.max y hy).uniq (k.max y hy) (fun x hx => via_same fun g => ih x hx ?_)
      have := (rel_pos g).2; omega
  apply List.ext_getElem (by rw [h.len, k.len])
  intro i h1 h2
  have := key 32 i (by rw [← h.len]; exact h1) (by have := (hb i (by rw [← h.len]; exact h1)).2; omega)
  rw [List.getD_eq_getElem?_getD, List.getElem?_eq_getElem h1, List.getD_eq_getElem?_getD, List.getElem?_eq_getElem h2] at this
  exact this
theorem Lev.bound {l : List It} {v : List Int} (hb : BlkOk l) (h : Lev l v) : ∀ y, y < l.length → 0 ≤ v.getD y 0 ∧ v.getD y 0 ≤ blk l y := by
  have key : ∀ (n : Nat) (y : Nat), y < l.length → blk l y < n → v.getD y 0 ≤ blk l y := by
    intro n
    induction n with
    | zero => intro y hy hn; have := (hb y hy).1; omega
    | succ n ih =>
      intro y hy hn
      have hy0 := (hb y hy).1
      rcases (h.max y hy).hit with e | ⟨x, hx, e⟩
      · omega
      · by_cases g : rel l x y = 0
        · have := via_zero (v := v) g; have e' : via l v x y = v.getD y 0 := e; omega
        · have e' : via l v x y = v.getD y 0 := e
          rw [via_pos g] at e'
          have h1 := (rel_pos g).2
          have h2 := ih x hx (by omega)
          rcases rel_cases l x y with c | c | c <;> omega
  intro y hy
  exact ⟨(h.max y hy).pos, key 32 y hy (by have := (hb y hy).2; omega)⟩
/-- y has the greatest level, the first of several. -/
structure IsTop (v : List Int) (y : Nat) : Prop where
  lt : y < v.length
  le : ∀ x, x < v.length → v.getD x 0 ≤ v.getD y 0
  first : ∀ x, x < y → v.getD x 0 < v.getD y 0
theorem IsTop.uniq {v : List Int} {x y : Nat} (h : IsTop v x) (k : IsTop v y) : x = y := by
  rcases Nat.lt_trichotomy x y with g | g | g
  · have := k.first x g; have := h.le y k.lt; omega
  · exact g
  · have := h.first y g; have := k.le x h.lt; omega
/-- The chain that is found by going back from y. -/
inductive IsBack (l : List It) (v : List Int) : Nat → List Nat → Prop
  | one (y : Nat) : v.getD y 0 ≤ 0 → IsBack l v y [y]
  | step (y x : Nat) (c : List Nat) : 0 < v.getD y 0 → x < l.length → via l v x y = v.getD y 0 → (∀ z, z < x → via l v z y ≠ v.getD y 0) → IsBack l v x c → IsBack l v y (c ++ [y])
theorem IsBack.uniq {l : List It} {v : List Int} {y : Nat} {c d : List Nat} (h : IsBack l v y c) (k : IsBack l v y d) : c = d := by
  induction h generalizing d with
  | one y h =>
    cases k with
    | one _ _ => rfl
    | step _ x c h0 h1 h2 h3 h4 => omega
  | step y x c h0 h1 h2 h3 h4 ih =>
    cases k with
    | one _ g => omega
    | step _ x' c' g0 g1 g2 g3 g4 =>
      have : x = x' := by
        rcases Nat.lt_trichotomy x x' with g | g | g
        · exact absurd h2 (g3 x g)
        · exact g
        · exact absurd g2 (h3 x' g)
      subst this
      rw [ih g4]
theorem IsBack.last {l : List It} {v : List Int} {y : Nat} {c : List Nat} (h : IsBack l v y c) : ∃ d, c = d ++ [y] := by
  cases h with
  | one _ _ => exact ⟨[], rfl⟩
  | step _ x d _ _ _ _ _ => exact ⟨d, rfl⟩
theorem IsBack.mem {l : List It} {v : List Int} {y : Nat} {c : List Nat} (h : IsBack l v y c) (hy : y < l.length) : ∀ x ∈ c, x < l.length := by
  induction h with
  | one y h => intro x hx; rw [List.mem_singleton] at hx; omega
  | step y x c h0 h1 h2 h3 h4 ih =>
    intro z hz
    rcases List.mem_append.1 hz with g | g
    · exact ih h1 z g
    · rw [List.mem_singleton] at g; omega
/-- At most one for each block. -/
theorem IsBack.len {l : List It} {v : List Int} {y : Nat} {c : List Nat} (hb : BlkOk l) (h : IsBack l v y c) (hy : y < l.length) : (c.length : Int) ≤ blk l y + 1 := by
  induction h with
  | one y h => have := (hb y hy).1; simp; omega
  | step y x c h0 h1 h2 h3 h4 ih =>
    have g : rel l x y ≠ 0 := fun g => by rw [via_zero g] at h2; omega
    have := (rel_pos g).2
    have := ih h1
    rw [List.length_append]; simp; omega
/-- There is one. -/
theorem Lev.back {l : List It} {v : List Int} (hb : BlkOk l) (h : Lev l v) : ∀ (n : Nat) (y : Nat), y < l.length → blk l y < n → ∃ c, IsBack l v y c := by
  intro n
  induction n with
  | zero => intro y hy hn; have := (hb y hy).1; omega
  | succ n ih =>
    intro y hy hn
    by_cases g : v.getD y 0 ≤ 0
    · exact ⟨_, .one y g⟩
    · rcases (h.max y hy).hit with e | ⟨x, hx, e⟩
      · omega
      · -- the least one
        have hex : ∃ x, x < l.length ∧ via l v x y = v.getD y 0 := ⟨x, hx, e⟩
        obtain ⟨z, ⟨hz, ez⟩, hm⟩ : ∃ z, (z < l.length ∧ via l v z y = v.getD y 0) ∧ ∀ z', z' < z → ¬ (z' < l.length ∧ via l v z' y = v.getD y 0) := by
          clear ih
          have : ∀ k x, x < k → x < l.length ∧ via l v x y = v.getD y 0 → ∃ z, (z < l.length ∧ via l v z y = v.getD y 0) ∧ ∀ z', z' < z → ¬ (z' < l.length ∧ via l v z' y = v.getD y 0) := by
            intro k
            induction k with
            | zero => intro x hx; omega
            | succ k ihk =>
              intro x hxk hp
              by_cases c : ∃ z', z' < x ∧ (z' < l.length ∧ via l v z' y = v.getD y 0)
              · obtain ⟨z', h1, h2⟩ := c
                exact ihk z' (by omega) h2
              · exact ⟨x, hp, fun z' h1 h2 => c ⟨z', h1, h2⟩⟩
          exact this (x + 1) x (by omega) ⟨hx, e⟩
        have gr : rel l z y ≠ 0 := fun g => by rw [via_zero g] at ez; omega
        have := (rel_pos gr).2
        obtain ⟨c, hc⟩ := ih z hz (by omega)
        exact ⟨_, .step y z c (by omega) hz ez (fun z' h1 h2 => hm z' h1 ⟨by omega, h2⟩) hc⟩
end Go.Proofs.Ytpimdcljecipeaa
