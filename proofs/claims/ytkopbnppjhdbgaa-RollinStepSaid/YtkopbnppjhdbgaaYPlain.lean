/-
  Stage 13: least codes and chains, in plain words.
-/
import Derived.Test.YtkopbnppjhdbgaaJVal
import Derived.Test.YtkopbnppjhdbgaaKStep
set_option linter.unusedSimpArgs false
set_option linter.unusedVariables false
namespace Go.Proofs.Ytkopbnppjhdbgaa
open Go.RowKit

/-- The round of item y. -/
def rnd (l : List It) (y : Nat) : Int := (l.getD y it0).2.2.1
/-- What a valid job's numbers keep. -/
structure FormOk (l : List It) (wt : Int) : Prop where
  rb : ∀ y, y < l.length → 0 ≤ rnd l y ∧ rnd l y ≤ 12
  wb : 0 ≤ wt ∧ wt ≤ 12
  blk : BlkOk l
theorem formOk_of {l : List It} {wt : Int} (h : validR l wt = 0) : FormOk l wt := by
  obtain ⟨h1, h2, h3⟩ := valid_ok h
  refine ⟨fun y hy => (h2 _ (getD_memI hy)).2.2.1, ?_, h3⟩
  unfold validR at h
  rw [if_neg (by omega)] at h
  by_cases g : btw wt 0 12 = true
  · exact btw_iff.1 g
  · rw [if_neg g] at h; omega
/-- What next answers. -/
theorem nextI {n r wt : Int} (hn : 0 ≤ n) (hr : 0 ≤ r ∧ r ≤ 12) (hw : 0 ≤ wt ∧ wt ≤ 12) :
    (∃ K : Nat, nextZ n r wt = okN K ∧ n ≤ K ∧ K < 4096 ∧ isC r.toNat wt.toNat K = true ∧ ∀ x : Nat, n ≤ x → x < K → isC r.toNat wt.toNat x = false) ∨
    (nextZ n r wt = (0, 15) ∧ ∀ x : Nat, n ≤ x → isC r.toNat wt.toNat x = false) := by
  have hf : frmB r wt = true := frmB_iff.2 (by omega)
  unfold nextZ
  rw [if_pos ⟨hf, hn⟩]
  rcases nxt_is r.toNat wt.toNat n.toNat with ⟨h1, h2, h3, h4⟩ | ⟨h1, h2⟩
  · rw [if_pos h1]
    exact Or.inl ⟨_, rfl, by omega, h1, h3, fun x a b => h4 x (by omega) b⟩
  · rw [if_neg (by omega)]
    exact Or.inr ⟨rfl, fun x a => h2 x (by omega)⟩
theorem next_mono {a b r wt : Int} (ha : 0 ≤ a) (hab : a ≤ b) (hr : 0 ≤ r ∧ r ≤ 12) (hw : 0 ≤ wt ∧ wt ≤ 12) {k : Int} (h : nextZ b r wt = (k, 0)) :
    ∃ j, nextZ a r wt = (j, 0) ∧ a ≤ j ∧ j ≤ k := by
  rcases nextI (n := b) (by omega) hr hw with ⟨K, e, h1, h2, h3, h4⟩ | ⟨e, _⟩
  · rw [e] at h
    have hk : k = K := by injection h with h; exact h.symm
    rcases nextI ha hr hw with ⟨J, e', g1, g2, g3, g4⟩ | ⟨e', g⟩
    · refine ⟨J, e', g1, ?_⟩
      rcases Nat.lt_or_ge K J with c | c
      · have := g4 K (by omega) c
        rw [h3] at this; cases this
      · omega
    · have := g K (by omega)
      rw [h3] at this; cases this
  · rw [e] at h; injection h with _ h; omega
theorem next_bd {n r wt k : Int} (hn : 0 ≤ n) (hr : 0 ≤ r ∧ r ≤ 12) (hw : 0 ≤ wt ∧ wt ≤ 12) (h : nextZ n r wt = (k, 0)) : n ≤ k ∧ k ≤ 4095 := by
  rcases nextI hn hr hw with ⟨K, e, h1, h2, _⟩ | ⟨e, _⟩
  · rw [e] at h; injection h with h; omega
  · rw [e] at h; injection h with _ h; omega
theorem next_err {n r wt : Int} (hn : 0 ≤ n) (hr : 0 ≤ r ∧ r ≤ 12) (hw : 0 ≤ wt ∧ wt ≤ 12) (h : (nextZ n r wt).2 ≠ 0) : nextZ n r wt = (0, 15) := by
  rcases nextI hn hr hw with ⟨K, e, _⟩ | ⟨e, _⟩
  · rw [e] at h; exact absurd rfl h
  · exact e

theorem via_nonneg {l : List It} {v : List Int} (hv : ∀ y, 0 ≤ v.getD y 0) (x y : Nat) : 0 ≤ via l v x y := by
  have := hv x
  unfold via
  split
  · omega
  · split <;> omega
/-- Of the items in S, the bases and the least codes are found. -/
structure PSol (l : List It) (wt : Int) (S : Nat → Prop) (bs v : List Int) : Prop where
  vlen : v.length = l.length
  blen : bs.length = l.length
  sub : ∀ y, S y → y < l.length
  down : ∀ x y, S y → x < l.length → rel l x y ≠ 0 → S x
  base : ∀ y, S y → IsMaxP (fun x => x < l.length) (fun x => via l v x y) (bs.getD y 0)
  code : ∀ y, S y → nextZ (bs.getD y 0) (rnd l y) wt = (v.getD y 0, 0)
  rest : ∀ y, ¬ S y → v.getD y 0 = 0 ∧ bs.getD y 0 = 0
/-- All of them are found. -/
abbrev Sol (l : List It) (wt : Int) (bs v : List Int) : Prop := PSol l wt (fun y => y < l.length) bs v
theorem getD_zeros (n y : Nat) : (List.replicate n (0 : Int)).getD y 0 = 0 := by
  rw [List.getD_eq_getElem?_getD, List.getElem?_replicate]; split <;> rfl
theorem PSol.start (l : List It) (wt : Int) : PSol l wt (fun _ => False) (List.replicate l.length 0) (List.replicate l.length 0) :=
  ⟨by simp, by simp, fun _ h => h.elim, fun _ _ h => h.elim, fun _ h => h.elim, fun _ h => h.elim, fun y _ => ⟨getD_zeros _ _, getD_zeros _ _⟩⟩
theorem PSol.congr {l : List It} {wt : Int} {S S' : Nat → Prop} {bs v : List Int} (h : PSol l wt S bs v) (k : ∀ y, S y ↔ S' y) : PSol l wt S' bs v := by
  have e : S = S' := funext fun y => propext (k y)
  rw [← e]; exact h
theorem PSol.agree {l : List It} {wt : Int} {S S' : Nat → Prop} {bs v bs' v' : List Int} (hb : BlkOk l) (h : PSol l wt S bs v) (k : PSol l wt S' bs' v') :
    ∀ y, S y → S' y → v.getD y 0 = v'.getD y 0 ∧ bs.getD y 0 = bs'.getD y 0 := by
  have key : ∀ (n : Nat) (y : Nat), S y → S' y → blk l y < n → v.getD y 0 = v'.getD y 0 ∧ bs.getD y 0 = bs'.getD y 0 := by
    intro n
    induction n with
    | zero => intro y hy _ hn; have := (hb y (h.sub y hy)).1; omega
    | succ n ih =>
      intro y hy hy' hn
      have e : bs.getD y 0 = bs'.getD y 0 := (h.base y hy).uniq (k.base y hy') (fun x hx => via_same fun g => (ih x (h.down x y hy hx g) (k.down x y hy' hx g) (by have := (rel_pos g).2; omega)).1)
      have c := h.code y hy
      rw [e, k.code y hy'] at c
      injection c with c
      exact ⟨c.symm, e⟩
  intro y hy hy'
  exact key 32 y hy hy' (by have := (hb y (h.sub y hy)).2; omega)
theorem getD_ext {v v' : List Int} (h : v.length = v'.length) (k : ∀ y, y < v.length → v.getD y 0 = v'.getD y 0) : v = v' := by
  apply List.ext_getElem h
  intro i h1 h2
  have := k i h1
  rw [List.getD_eq_getElem?_getD, List.getElem?_eq_getElem h1, List.getD_eq_getElem?_getD, List.getElem?_eq_getElem h2] at this
  exact this
theorem Sol.uniq {l : List It} {wt : Int} {bs v bs' v' : List Int} (hb : BlkOk l) (h : Sol l wt bs v) (k : Sol l wt bs' v') : v = v' ∧ bs = bs' :=
  ⟨getD_ext (by rw [h.vlen, k.vlen]) (fun y hy => by rw [h.vlen] at hy; exact (h.agree hb k y hy hy).1),
   getD_ext (by rw [h.blen, k.blen]) (fun y hy => by rw [h.blen] at hy; exact (h.agree hb k y hy hy).2)⟩
theorem PSol.bound {l : List It} {wt : Int} {S : Nat → Prop} {bs v : List Int} (hf : FormOk l wt) (h : PSol l wt S bs v) : ∀ y, (0 ≤ v.getD y 0 ∧ v.getD y 0 ≤ 4095) ∧ (0 ≤ bs.getD y 0 ∧ bs.getD y 0 ≤ v.getD y 0) := by
  intro y
  by_cases hy : S y
  · have h0 := (h.base y hy).pos
    have := next_bd h0 (hf.rb y (h.sub y hy)) hf.wb (h.code y hy)
    omega
  · have := h.rest y hy; omega
theorem getDset {zs : List Int} {y : Nat} (h : y < zs.length) (M : Int) (x : Nat) : (zs.set y M).getD x 0 = if y = x then M else zs.getD x 0 := by
  rw [List.getD_eq_getElem?_getD, List.getElem?_set]
  by_cases e : y = x
  · rw [if_pos e, if_pos h, if_pos e]; rfl
  · rw [if_neg e, if_neg e, List.getD_eq_getElem?_getD]
theorem via_set {l : List It} {v : List Int} {x y z : Nat} {k : Int} (hy : y < v.length) (h : rel l y z = 0) : via l (v.set y k) x z = via l v x z :=
  via_same fun g => by
    rw [getDset hy]
    by_cases e : y = x
    · subst e; exact absurd h g
    · rw [if_neg e]
theorem rel_self (l : List It) (y : Nat) : rel l y y = 0 := rel_ge (Int.le_refl _)
/-- One more is found. -/
theorem PSol.step {l : List It} {wt : Int} {S : Nat → Prop} {bs v : List Int} (h : PSol l wt S bs v) {y : Nat} (hy : y < l.length) (hn : ¬ S y) (hd : ∀ x, x < l.length → rel l x y ≠ 0 → S x)
    {M k : Int} (hM : IsMaxP (fun x => x < l.length) (fun x => via l v x y) M) (hk : nextZ M (rnd l y) wt = (k, 0)) : PSol l wt (fun z => S z ∨ z = y) (bs.set y M) (v.set y k) := by
  have yv : y < v.length := by rw [h.vlen]; exact hy
  have yb : y < bs.length := by rw [h.blen]; exact hy
  have hz : ∀ z, S z → rel l y z = 0 := fun z hz => Decidable.byContradiction fun g => hn (h.down y z hz hy g)
  refine ⟨by rw [List.length_set]; exact h.vlen, by rw [List.length_set]; exact h.blen, fun z hz => ?_, fun x z hz hx g => ?_, fun z hs => ?_, fun z hs => ?_, fun z hs => ?_⟩
  · rcases hz with hz | rfl
    · exact h.sub z hz
    · exact hy
  · rcases hz with hz | rfl
    · exact Or.inl (h.down x z hz hx g)
    · exact Or.inl (hd x hx g)
  · rcases hs with hs | rfl
    · have hne : y ≠ z := fun e => by subst e; exact hn hs
      rw [getDset yb, if_neg hne]
      exact (h.base z hs).congr (fun _ => Iff.rfl) (fun x _ => (via_set yv (hz z hs)).symm)
    · rw [getDset yb, if_pos rfl]
      exact hM.congr (fun _ => Iff.rfl) (fun x _ => (via_set yv (rel_self l z)).symm)
  · rcases hs with hs | rfl
    · have hne : y ≠ z := fun e => by subst e; exact hn hs
      rw [getDset yb, if_neg hne, getDset yv, if_neg hne]
      exact h.code z hs
    · rw [getDset yb, if_pos rfl, getDset yv, if_pos rfl]
      exact hk
  · have hne : y ≠ z := fun e => hs (Or.inr e.symm)
    rw [getDset yb, if_neg hne, getDset yv, if_neg hne]
    exact h.rest z (fun g => hs (Or.inl g))
/-- Where next has no answer, nobody has a solution. -/
theorem PSol.fail {l : List It} {wt : Int} {S : Nat → Prop} {bs v : List Int} (hb : BlkOk l) (h : PSol l wt S bs v) {y : Nat} (hy : y < l.length) (hd : ∀ x, x < l.length → rel l x y ≠ 0 → S x)
    {M : Int} (hM : IsMaxP (fun x => x < l.length) (fun x => via l v x y) M) (hk : (nextZ M (rnd l y) wt).2 ≠ 0) : ∀ bs' v', ¬ Sol l wt bs' v' := by
  intro bs' v' k
  have e : M = bs'.getD y 0 := hM.uniq (k.base y hy) (fun x hx => via_same fun g => (h.agree hb k x (hd x hx g) hx).1)
  rw [e, k.code y hy] at hk
  exact hk rfl

/-- The chain that is found by going back from y, by the bases. -/
inductive IsBackB (l : List It) (v bs : List Int) : Nat → List Nat → Prop
  | one (y : Nat) : bs.getD y 0 ≤ 0 → IsBackB l v bs y [y]
  | step (y x : Nat) (c : List Nat) : 0 < bs.getD y 0 → x < l.length → via l v x y = bs.getD y 0 → (∀ z, z < x → via l v z y ≠ bs.getD y 0) → IsBackB l v bs x c → IsBackB l v bs y (c ++ [y])
theorem IsBackB.uniq {l : List It} {v bs : List Int} {y : Nat} {c d : List Nat} (h : IsBackB l v bs y c) (k : IsBackB l v bs y d) : c = d := by
  induction h generalizing d with
  | one y h =>
    cases k with
    | one _ _ => rfl
    | step _ x c h0 h1 h2 h3 h4 => omega
  | step y x c h0 h1 h2 h3 h4 ih =>
    cases k with
    | one _ g => omega
    | step _ x' c' g0 g1 g2 g3 g4 =>
      have : x = x' := by
        rcases Nat.lt_trichotomy x x' with g | g | g
        · exact absurd h2 (g3 x g)
        · exact g
        · exact absurd g2 (h3 x' g)
      subst this
      rw [ih g4]
theorem IsBackB.mem {l : List It} {v bs : List Int} {y : Nat} {c : List Nat} (h : IsBackB l v bs y c) (hy : y < l.length) : ∀ x ∈ c, x < l.length := by
  induction h with
  | one y h => intro x hx; rw [List.mem_singleton] at hx; omega
  | step y x c h0 h1 h2 h3 h4 ih =>
    intro z hz
    rcases List.mem_append.1 hz with g | g
    · exact ih h1 z g
    · rw [List.mem_singleton] at g; omega
/-- At most one for each block. -/
theorem IsBackB.len {l : List It} {v bs : List Int} {y : Nat} {c : List Nat} (hb : BlkOk l) (h : IsBackB l v bs y c) (hy : y < l.length) : (c.length : Int) ≤ blk l y + 1 := by
  induction h with
  | one y h => have := (hb y hy).1; simp; omega
  | step y x c h0 h1 h2 h3 h4 ih =>
    have g : rel l x y ≠ 0 := fun g => by rw [via_zero g] at h2; omega
    have := (rel_pos g).2
    have := ih h1
    rw [List.length_append]; simp; omega
theorem IsBackB.last {l : List It} {v bs : List Int} {y : Nat} {c : List Nat} (h : IsBackB l v bs y c) : ∃ d, c = d ++ [y] := by
  cases h with
  | one _ _ => exact ⟨[], rfl⟩
  | step _ x d _ _ _ _ _ => exact ⟨d, rfl⟩

/-- The bound of a chain of items: from the number n (of the item x, where there is one) on. -/
def bnd (l : List It) (wt : Int) : Option Nat → Int → List Nat → Int × Int
  | _, n, [] => (n, 0)
  | p, n, y :: c =>
    let m := match p with
      | none => n
      | some x => if rel l x y = 2 then n + 1 else n
    let t := nextZ m (rnd l y) wt
    if t.2 = 0 then bnd l wt (some y) t.1 c else (0, t.2)
/-- Each item of the list is one of the job and comes before the next one. -/
def chn (l : List It) : Option Nat → List Nat → Prop
  | _, [] => True
  | p, y :: c => y < l.length ∧ (∀ x, p = some x → rel l x y ≠ 0) ∧ chn l (some y) c
theorem bnd_nil (l : List It) (wt : Int) (p : Option Nat) (n : Int) : bnd l wt p n [] = (n, 0) := by cases p <;> rfl
theorem bnd_one (l : List It) (wt : Int) (n : Int) (y : Nat) (c : List Nat) : bnd l wt none n (y :: c) = if (nextZ n (rnd l y) wt).2 = 0 then bnd l wt (some y) (nextZ n (rnd l y) wt).1 c else (0, (nextZ n (rnd l y) wt).2) := rfl
theorem bnd_two (l : List It) (wt : Int) (x : Nat) (n : Int) (y : Nat) (c : List Nat) : bnd l wt (some x) n (y :: c) = if (nextZ (if rel l x y = 2 then n + 1 else n) (rnd l y) wt).2 = 0 then bnd l wt (some y) (nextZ (if rel l x y = 2 then n + 1 else n) (rnd l y) wt).1 c else (0, (nextZ (if rel l x y = 2 then n + 1 else n) (rnd l y) wt).2) := rfl
/-- No chain has a bound above the least codes. -/
theorem bnd_le {l : List It} {wt : Int} {bs v : List Int} (hf : FormOk l wt) (h : Sol l wt bs v) {most : Int} (hm : ∀ y, y < l.length → v.getD y 0 ≤ most) :
    ∀ (c : List Nat) (p : Option Nat) (n : Int), chn l p c → 0 ≤ n → n ≤ most → (p = none → n = 0) → (∀ x, p = some x → x < l.length ∧ n ≤ v.getD x 0) → ∃ k, bnd l wt p n c = (k, 0) ∧ 0 ≤ k ∧ k ≤ most := by
  intro c
  induction c with
  | nil => intro p n _ h0 h1 _ _; exact ⟨n, bnd_nil l wt p n, h0, h1⟩
  | cons y c ih =>
    intro p n hc h0 h1 hp hx
    obtain ⟨hy, hr, hc2⟩ := hc
    have hM := h.base y hy
    have hk := h.code y hy
    have key : ∀ m, 0 ≤ m → m ≤ bs.getD y 0 → ∃ j, nextZ m (rnd l y) wt = (j, 0) ∧ 0 ≤ j ∧ j ≤ v.getD y 0 := fun m m0 m1 => by
      obtain ⟨j, e, g1, g2⟩ := next_mono m0 m1 (hf.rb y hy) hf.wb hk
      exact ⟨j, e, by omega, g2⟩
    have hmy := hm y hy
    have fin : ∀ j, 0 ≤ j → j ≤ v.getD y 0 → ∃ k, bnd l wt (some y) j c = (k, 0) ∧ 0 ≤ k ∧ k ≤ most := fun j j0 j1 =>
      ih (some y) j hc2 j0 (by omega) (fun e => by cases e) (fun x e => by injection e with e; subst e; exact ⟨hy, j1⟩)
    cases p with
    | none =>
      have := hp rfl
      subst this
      obtain ⟨j, e, g1, g2⟩ := key 0 (Int.le_refl _) hM.pos
      rw [bnd_one, e, if_pos rfl]
      exact fin j g1 g2
    | some x =>
      obtain ⟨hxl, hnx⟩ := hx x rfl
      have hrx := hr x rfl
      have hv : (if rel l x y = 2 then n + 1 else n) ≤ bs.getD y 0 := by
        have := hM.le x hxl
        have e : via l v x y ≤ bs.getD y 0 := this
        unfold via at e
        by_cases g : rel l x y = 2
        · rw [if_pos g] at e ⊢; omega
        · rw [if_neg g, if_pos (by rcases rel_cases l x y with c | c | c <;> omega)] at e
          rw [if_neg g]; omega
      obtain ⟨j, e, g1, g2⟩ := key _ (by split <;> omega) hv
      rw [bnd_two, e, if_pos rfl]
      exact fin j g1 g2
/-- A chain that goes back by the bases has the code of its last item as its bound. -/
theorem bnd_app (l : List It) (wt : Int) : ∀ (c : List Nat) (p : Option Nat) (n k : Int) (x y : Nat), bnd l wt p n (c ++ [x]) = (k, 0) → bnd l wt p n (c ++ [x] ++ [y]) = bnd l wt (some x) k [y] := by
  intro c
  induction c with
  | nil =>
    intro p n k x y h
    have hc : ∀ m, (if (nextZ m (rnd l x) wt).2 = 0 then bnd l wt (some x) (nextZ m (rnd l x) wt).1 [] else (0, (nextZ m (rnd l x) wt).2)) = (k, 0) → (if (nextZ m (rnd l x) wt).2 = 0 then bnd l wt (some x) (nextZ m (rnd l x) wt).1 [y] else (0, (nextZ m (rnd l x) wt).2)) = bnd l wt (some x) k [y] := fun m e => by
      by_cases g : (nextZ m (rnd l x) wt).2 = 0
      · rw [if_pos g, bnd_nil] at e
        injection e with e
        rw [if_pos g, e]
      · rw [if_neg g] at e
        injection e with _ e
        exact absurd e g
    cases p with
    | none => exact hc n h
    | some z => exact hc _ h
  | cons a c ih =>
    intro p n k x y h
    have hc : ∀ m, (if (nextZ m (rnd l a) wt).2 = 0 then bnd l wt (some a) (nextZ m (rnd l a) wt).1 (c ++ [x]) else (0, (nextZ m (rnd l a) wt).2)) = (k, 0) → (if (nextZ m (rnd l a) wt).2 = 0 then bnd l wt (some a) (nextZ m (rnd l a) wt).1 (c ++ [x] ++ [y]) else (0, (nextZ m (rnd l a) wt).2)) = bnd l wt (some x) k [y] := fun m e => by
      by_cases g : (nextZ m (rnd l a) wt).2 = 0
      · rw [if_pos g] at e ⊢
        exact ih (some a) _ k x y e
      · rw [if_neg g] at e
        injection e with _ e
        exact absurd e g
    cases p with
    | none => exact hc n h
    | some z => exact hc _ h
theorem chn_app (l : List It) : ∀ (c : List Nat) (p : Option Nat) (x y : Nat), chn l p (c ++ [x]) → y < l.length → rel l x y ≠ 0 → chn l p (c ++ [x] ++ [y]) := by
  intro c
  induction c with
  | nil => intro p x y h hy hr; exact ⟨h.1, h.2.1, hy, fun z e => by injection e with e; subst e; exact hr, trivial⟩
  | cons a c ih => intro p x y h hy hr; exact ⟨h.1, h.2.1, ih (some a) x y h.2.2 hy hr⟩
theorem IsBackB.bound {l : List It} {wt : Int} {bs v : List Int} (hf : FormOk l wt) (h : Sol l wt bs v) {y : Nat} {c : List Nat} (hy : y < l.length) (k : IsBackB l v bs y c) :
    chn l none c ∧ bnd l wt none 0 c = (v.getD y 0, 0) := by
  induction k with
  | one y g =>
    have e : bs.getD y 0 = 0 := by have := (h.base y hy).pos; omega
    have hk := h.code y hy
    rw [e] at hk
    refine ⟨⟨hy, (fun x e => (by cases e)), trivial⟩, ?_⟩
    rw [bnd_one, hk, if_pos rfl]; rfl
  | step y x c h0 h1 h2 h3 h4 ih =>
    obtain ⟨i1, i2⟩ := ih h1
    obtain ⟨d, rfl⟩ := h4.last
    have g : rel l x y ≠ 0 := fun g => by rw [via_zero g] at h2; omega
    refine ⟨chn_app l d none x y i1 hy g, ?_⟩
    rw [bnd_app l wt d none 0 _ x y i2, bnd_two]
    have e : (if rel l x y = 2 then v.getD x 0 + 1 else v.getD x 0) = bs.getD y 0 := by
      rw [← h2]; unfold via
      by_cases c2 : rel l x y = 2
      · rw [if_pos c2, if_pos c2]
      · rw [if_neg c2, if_neg c2, if_pos (by rcases rel_cases l x y with c | c | c <;> omega)]
    rw [e, h.code y hy, if_pos rfl]; rfl
end Go.Proofs.Ytkopbnppjhdbgaa
