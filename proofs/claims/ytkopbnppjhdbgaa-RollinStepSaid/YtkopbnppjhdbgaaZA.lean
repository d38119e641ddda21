/-
  ZMath, ZSum, ZFit, ZVal, ZMem, ZPut, ZTake, ZPush, ZLsts.
-/
import Derived.Test.YtkopbnppjhdbgaaRows
import Derived.Test.YtkopbnppjhdbgaaYLeast
import Derived.Test.YtkopbnppjhdbgaaKFns
import Derived.Test.YtkopbnppjhdbgaaJRef
import Derived.Test.YtkopbnppjhdbgaaKRef
import Derived.Test.YtkopbnppjhdbgaaJOlA
import Derived.Test.YtkopbnppjhdbgaaYRound
import Derived.Test.YtkopbnppjhdbgaaKReal
import Derived.Test.YtkopbnppjhdbgaaJSet
import Derived.Test.YtkopbnppjhdbgaaRInts
set_option linter.unusedSimpArgs false
set_option linter.unusedVariables false
namespace Go.Proofs.Ytkopbnppjhdbgaa

/-- The bit b of K is set. -/
def bitN (K b : Nat) : Bool := K / 2 ^ b % 2 == 1
/-- The least set bit from b on, among n of them; behind them if there is none. -/
def dstF (K : Nat) : Nat → Nat → Nat
  | 0, b => b
  | n + 1, b => if bitN K b = true then b else dstF K n (b + 1)
def dst (S K t : Nat) : Nat := dstF K (S - t) t
theorem dstF_ge (K : Nat) : ∀ n b, b ≤ dstF K n b ∧ dstF K n b ≤ b + n := by
  intro n
  induction n with
  | zero => intro b; exact ⟨Nat.le_refl _, Nat.le_refl _⟩
  | succ n ih =>
    intro b
    unfold dstF
    split
    · omega
    · have := ih (b + 1); omega
theorem dst_bd {S K t : Nat} (h : t ≤ S) : t ≤ dst S K t ∧ dst S K t ≤ S := by
  have := dstF_ge K (S - t) t
  unfold dst; omega
theorem dst_end (S K : Nat) : dst S K S = S := by unfold dst; rw [Nat.sub_self]; rfl
theorem dst_yes {S K t : Nat} (h : t < S) (hb : bitN K t = true) : dst S K t = t := by
  unfold dst
  rw [show S - t = (S - t - 1) + 1 by omega]
  unfold dstF; rw [if_pos hb]
theorem dst_no {S K t : Nat} (h : t < S) (hb : bitN K t = false) : dst S K t = dst S K (t + 1) := by
  unfold dst
  rw [show S - t = (S - (t + 1)) + 1 by omega]
  rw [dstF, if_neg (by rw [hb]; exact Bool.false_ne_true)]
theorem dst_skip {S K t : Nat} (h : t < S) (hb : dst S K t ≠ t) : bitN K t = false ∧ dst S K t = dst S K (t + 1) := by
  cases g : bitN K t with
  | true => exact absurd (dst_yes h g) hb
  | false => exact ⟨rfl, dst_no h g⟩
theorem dst_hit {S K t : Nat} (h : t < S) (hb : dst S K t = t) : bitN K t = true := by
  cases g : bitN K t with
  | true => rfl
  | false =>
    rw [dst_no h g] at hb
    have := (dst_bd (S := S) (K := K) (t := t + 1) (by omega)).1
    omega
/-- It is set there, and nowhere before. -/
theorem dst_spec {S K t : Nat} (h : t ≤ S) : (dst S K t < S → bitN K (dst S K t) = true) ∧ ∀ b, t ≤ b → b < dst S K t → bitN K b = false := by
  have key : ∀ n t, S - t = n → t ≤ S → (dst S K t < S → bitN K (dst S K t) = true) ∧ ∀ b, t ≤ b → b < dst S K t → bitN K b = false := by
    intro n
    induction n with
    | zero =>
      intro t hn ht
      obtain rfl : t = S := by omega
      rw [dst_end]
      exact ⟨fun h => absurd h (Nat.lt_irrefl _), fun b h1 h2 => by omega⟩
    | succ n ih =>
      intro t hn ht
      by_cases g : bitN K t = true
      · rw [dst_yes (by omega) g]
        exact ⟨fun _ => g, fun b h1 h2 => by omega⟩
      · rw [Bool.not_eq_true] at g
        rw [dst_no (by omega) g]
        obtain ⟨h1, h2⟩ := ih (t + 1) (by omega) (by omega)
        refine ⟨h1, fun b h3 h4 => ?_⟩
        rcases Nat.eq_or_lt_of_le h3 with e | e
        · subst e; exact g
        · exact h2 b e h4
  exact key _ t rfl h
theorem dst_uniq {S K t d : Nat} (h : t ≤ S) (h1 : t ≤ d) (h2 : d ≤ S) (h3 : d < S → bitN K d = true) (h4 : ∀ b, t ≤ b → b < d → bitN K b = false) : dst S K t = d := by
  obtain ⟨g1, g2⟩ := dst_spec (K := K) h
  obtain ⟨g3, g4⟩ := dst_bd (K := K) h
  rcases Nat.lt_trichotomy (dst S K t) d with g | g | g
  · have := h4 _ g3 g
    rw [g1 (by omega)] at this; cases this
  · exact g
  · have := g2 d h1 g
    rw [h3 (by omega)] at this; cases this
/-- Bits and remainders. -/
theorem mod_succ (K b : Nat) : K % 2 ^ (b + 1) = K % 2 ^ b + 2 ^ b * (K / 2 ^ b % 2) := Nat.mod_pow_succ
theorem mod_off {K b : Nat} (h : bitN K b = false) : K % 2 ^ (b + 1) = K % 2 ^ b := by
  have h1 : ¬ K / 2 ^ b % 2 = 1 := fun g => by unfold bitN at h; rw [g] at h; cases h
  have h2 : K / 2 ^ b % 2 = 0 := by omega
  rw [mod_succ, h2, Nat.mul_zero, Nat.add_zero]
theorem mod_on {K b : Nat} (h : bitN K b = true) : K % 2 ^ (b + 1) = K % 2 ^ b + 2 ^ b := by
  have h1 : K / 2 ^ b % 2 = 1 := by unfold bitN at h; exact beq_iff_eq.1 h
  rw [mod_succ, h1, Nat.mul_one]

section
variable (S L T : Nat) (cd rd tn : Nat → Nat)
/-- The items of a round. -/
def comeL (t : Nat) : List Nat := (List.range L).filter fun x => rd x == t
def putS (t : Nat) (st : List (List Nat)) (x : Nat) : List (List Nat) := if dst S (cd x) t < S then st.set (dst S (cd x) t) (st.getD (dst S (cd x) t) [] ++ [x]) else st
def putT (t : Nat) (tr : List (List Nat)) (x : Nat) : List (List Nat) := if dst S (cd x) t < S then tr else tr.set (tn x) (tr.getD (tn x) [] ++ [x])
/-- What is pushed at a time. -/
def oldL (st : List (List Nat)) (t : Nat) : List Nat := if t = 0 then [] else st.getD (t - 1) []
def qAt (st : List (List Nat)) (t : Nat) : List Nat := oldL st t ++ comeL L rd t
def cutS (st : List (List Nat)) (t : Nat) : List (List Nat) := if t = 0 then st else st.set (t - 1) []
/-- The sorting tracks behind n pushes. -/
def mS : Nat → List (List Nat)
  | 0 => List.replicate S []
  | t + 1 => (qAt L rd (mS t) t).foldl (putS S cd t) (cutS (mS t) t)
/-- The tracks of the trains. -/
def mT : Nat → List (List Nat)
  | 0 => List.replicate T []
  | t + 1 => (qAt L rd (mS S L cd rd t) t).foldl (putT S cd tn t) (mT t)
/-- How many items were pushed, and at how many times. -/
def mM : Nat → Nat
  | 0 => 0
  | t + 1 => mM t + (qAt L rd (mS S L cd rd t) t).length
def mP : Nat → Nat
  | 0 => 0
  | t + 1 => mP t + if (qAt L rd (mS S L cd rd t) t).length = 0 then 0 else 1
end

theorem comeL_mem {L : Nat} {rd : Nat → Nat} {t x : Nat} : x ∈ comeL L rd t ↔ x < L ∧ rd x = t := by
  unfold comeL; rw [List.mem_filter, List.mem_range, beq_iff_eq]
theorem getD_setL {l : List (List Nat)} {k : Nat} (h : k < l.length) (p : List Nat) (j : Nat) : (l.set k p).getD j [] = if k = j then p else l.getD j [] := by
  rw [List.getD_eq_getElem?_getD, List.getElem?_set]
  by_cases e : k = j
  · rw [if_pos e, if_pos h, if_pos e]; rfl
  · rw [if_neg e, if_neg e, List.getD_eq_getElem?_getD]
theorem getD_rep (n j : Nat) : (List.replicate n ([] : List Nat)).getD j [] = [] := by
  rw [List.getD_eq_getElem?_getD, List.getElem?_replicate]; split <;> rfl
theorem putS_len (S : Nat) (cd : Nat → Nat) (t : Nat) (st : List (List Nat)) (x : Nat) : (putS S cd t st x).length = st.length := by
  unfold putS; split
  · rw [List.length_set]
  · rfl
theorem putT_len (S : Nat) (cd tn : Nat → Nat) (t : Nat) (tr : List (List Nat)) (x : Nat) : (putT S cd tn t tr x).length = tr.length := by
  unfold putT; split
  · rfl
  · rw [List.length_set]
theorem foldS_len (S : Nat) (cd : Nat → Nat) (t : Nat) (q : List Nat) : ∀ st, (q.foldl (putS S cd t) st).length = st.length := by
  induction q with
  | nil => intro st; rfl
  | cons x q ih => intro st; rw [List.foldl_cons, ih, putS_len]
theorem foldT_len (S : Nat) (cd tn : Nat → Nat) (t : Nat) (q : List Nat) : ∀ tr, (q.foldl (putT S cd tn t) tr).length = tr.length := by
  induction q with
  | nil => intro tr; rfl
  | cons x q ih => intro tr; rw [List.foldl_cons, ih, putT_len]
theorem foldS_at {S : Nat} {cd : Nat → Nat} {t b : Nat} (hb : b < S) (q : List Nat) : ∀ st, st.length = S → (q.foldl (putS S cd t) st).getD b [] = st.getD b [] ++ q.filter fun x => dst S (cd x) t == b := by
  induction q with
  | nil => intro st _; simp
  | cons x q ih =>
    intro st hs
    rw [List.foldl_cons, ih _ (by rw [putS_len]; exact hs)]
    unfold putS
    by_cases h : dst S (cd x) t < S
    · rw [if_pos h, getD_setL (by omega)]
      by_cases e : dst S (cd x) t = b
      · rw [if_pos e, e, List.filter_cons_of_pos (by simp [e]), List.append_assoc]; rfl
      · rw [if_neg e, List.filter_cons_of_neg (by simp [e])]
    · rw [if_neg h, List.filter_cons_of_neg (by simp; omega)]
theorem foldT_at {S T : Nat} {cd tn : Nat → Nat} {t b : Nat} (hb : b < T) (q : List Nat) : ∀ tr, tr.length = T → (∀ x ∈ q, tn x < T) → (q.foldl (putT S cd tn t) tr).getD b [] = tr.getD b [] ++ q.filter fun x => decide (S ≤ dst S (cd x) t) && (tn x == b) := by
  induction q with
  | nil => intro tr _ _; simp
  | cons x q ih =>
    intro tr hs hq
    rw [List.foldl_cons, ih _ (by rw [putT_len]; exact hs) (fun y hy => hq y (List.mem_cons_of_mem _ hy))]
    unfold putT
    by_cases h : dst S (cd x) t < S
    · rw [if_pos h, List.filter_cons_of_neg (by simp; omega)]
    · have := hq x (List.mem_cons_self ..)
      rw [if_neg h, getD_setL (by omega)]
      by_cases e : tn x = b
      · rw [if_pos e, e, List.filter_cons_of_pos (by simp [e]; omega), List.append_assoc]; rfl
      · rw [if_neg e, List.filter_cons_of_neg (by simp [e])]
theorem cutS_len (st : List (List Nat)) (t : Nat) : (cutS st t).length = st.length := by
  unfold cutS; split
  · rfl
  · rw [List.length_set]
theorem cutS_at {st : List (List Nat)} {t b : Nat} (ht : t ≤ st.length) : (cutS st t).getD b [] = if b + 1 = t then [] else st.getD b [] := by
  unfold cutS
  by_cases h : t = 0
  · rw [if_pos h, if_neg (by omega)]
  · rw [if_neg h, getD_setL (by omega)]
    by_cases e : t - 1 = b
    · rw [if_pos e, if_pos (by omega)]
    · rw [if_neg e, if_neg (by omega)]

/-- What a plan that fits keeps. -/
structure FitN (S L T : Nat) (cd rd tn : Nat → Nat) : Prop where
  cdl : ∀ x, x < L → cd x < 2 ^ S
  mis : ∀ x, x < L → cd x % 2 ^ rd x = 2 ^ rd x - 1
  asc : ∀ x y, x ≤ y → y < L → rd x ≤ rd y
  trn : ∀ x, x < L → tn x < T
section
variable {S L T : Nat} {cd rd tn : Nat → Nat}
theorem mS_len (t : Nat) : (mS S L cd rd t).length = S := by
  induction t with
  | zero => simp [mS]
  | succ t ih => rw [mS, foldS_len, cutS_len, ih]
theorem mT_len (t : Nat) : (mT S L T cd rd tn t).length = T := by
  induction t with
  | zero => simp [mT]
  | succ t ih => rw [mT, foldT_len, ih]
/-- The order on a track behind n pushes: by the bits that are gone, then by the index. -/
def ltN (cd : Nat → Nat) (t x y : Nat) : Prop := cd x % 2 ^ t < cd y % 2 ^ t ∨ (cd x % 2 ^ t = cd y % 2 ^ t ∧ x < y)
theorem oldL_succ (st : List (List Nat)) (t : Nat) : oldL st (t + 1) = st.getD t [] := rfl
theorem lt_off {t x y : Nat} (hx : bitN (cd x) t = false) (hy : bitN (cd y) t = false) (h : ltN cd t x y) : ltN cd (t + 1) x y := by
  unfold ltN; rw [mod_off hx, mod_off hy]; exact h
theorem lt_on {t x y : Nat} (hx : bitN (cd x) t = true) (hy : bitN (cd y) t = true) (h : ltN cd t x y) : ltN cd (t + 1) x y := by
  unfold ltN at *; rw [mod_on hx, mod_on hy]; omega
theorem lt_offon {t x y : Nat} (hx : bitN (cd x) t = false) (hy : bitN (cd y) t = true) : ltN cd (t + 1) x y := by
  unfold ltN
  rw [mod_off hx, mod_on hy]
  have := Nat.mod_lt (cd x) (Nat.two_pow_pos t)
  omega
/-- An item of the round comes behind those of earlier rounds. -/
theorem lt_come (h : FitN S L T cd rd tn) {t x y : Nat} (hx : x < L) (hxr : rd x < t) (hy : y < L) (hyr : rd y = t) : ltN cd t x y := by
  unfold ltN
  have h1 := h.mis y hy
  rw [hyr] at h1
  have h2 := Nat.mod_lt (cd x) (Nat.two_pow_pos t)
  have h3 : x < y := by
    rcases Nat.lt_or_ge x y with g | g
    · exact g
    · have := h.asc y x g hx; omega
  rw [h1]; omega
theorem come_asc (h : FitN S L T cd rd tn) (t : Nat) : (comeL L rd t).Pairwise (ltN cd t) := by
  unfold comeL
  refine (List.Pairwise.filter _ List.pairwise_lt_range).imp_of_mem fun {x y} hx hy hxy => ?_
  have h1 := comeL_mem.1 hx
  have h2 := comeL_mem.1 hy
  have e1 := h.mis x h1.1
  have e2 := h.mis y h2.1
  rw [h1.2] at e1
  rw [h2.2] at e2
  exact Or.inr ⟨by rw [e1, e2], hxy⟩
/-- A list of items of earlier rounds that is in order, and behind it items of the round. -/
theorem app_come (h : FitN S L T cd rd tn) {t : Nat} {p : List Nat} (hp : p.Pairwise (ltN cd t)) (hm : ∀ x ∈ p, x < L ∧ rd x < t) : (p ++ comeL L rd t).Pairwise (ltN cd t) :=
  List.pairwise_append.2 ⟨hp, come_asc h t, fun x hx y hy => lt_come h (hm x hx).1 (hm x hx).2 (comeL_mem.1 hy).1 (comeL_mem.1 hy).2⟩
/-- What a track has behind n pushes. -/
structure OnS (S L : Nat) (cd rd : Nat → Nat) (n b : Nat) (p : List Nat) : Prop where
  mem : ∀ x, x ∈ p ↔ x < L ∧ rd x < n ∧ dst S (cd x) (n - 1) = b
  asc : p.Pairwise (ltN cd (n - 1))
structure OnT (S L : Nat) (cd rd tn : Nat → Nat) (n b : Nat) (p : List Nat) : Prop where
  mem : ∀ x, x ∈ p ↔ x < L ∧ rd x < n ∧ dst S (cd x) (n - 1) = S ∧ tn x = b
  asc : p.Pairwise (ltN cd (n - 1))
/-- What is pushed is in order, too. -/
theorem q_asc (h : FitN S L T cd rd tn) {n : Nat} (hn : n ≤ S) (ih : ∀ b, b < S → OnS S L cd rd n b ((mS S L cd rd n).getD b [])) :
    (qAt L rd (mS S L cd rd n) n).Pairwise (ltN cd n) ∧ (∀ x, x ∈ qAt L rd (mS S L cd rd n) n ↔ x < L ∧ (rd x = n ∨ (rd x < n ∧ dst S (cd x) (n - 1) = n - 1))) := by
  unfold qAt
  cases n with
  | zero =>
    refine ⟨?_, fun x => ?_⟩
    · exact come_asc h 0
    · show x ∈ comeL L rd 0 ↔ _
      rw [comeL_mem]; omega
  | succ t =>
    have ho := ih t (by omega)
    rw [oldL_succ]
    refine ⟨app_come h ?_ (fun x hx => by have := (ho.mem x).1 hx; exact ⟨this.1, this.2.1⟩), fun x => ?_⟩
    · refine ho.asc.imp_of_mem fun {x y} hx hy hxy => ?_
      have h1 := ((ho.mem x).1 hx).2.2
      have h2 := ((ho.mem y).1 hy).2.2
      rw [Nat.add_sub_cancel] at h1 h2 hxy
      exact lt_on (dst_hit (by omega) h1) (dst_hit (by omega) h2) hxy
    · rw [List.mem_append, ho.mem, comeL_mem]
      constructor
      · rintro (⟨a, b, c⟩ | ⟨a, b⟩)
        · exact ⟨a, Or.inr ⟨b, c⟩⟩
        · exact ⟨a, Or.inl b⟩
      · rintro ⟨a, b | ⟨b, c⟩⟩
        · exact Or.inr ⟨a, b⟩
        · exact Or.inl ⟨a, b, c⟩
theorem onS_all (h : FitN S L T cd rd tn) : ∀ n, n ≤ S + 1 → ∀ b, b < S → OnS S L cd rd n b ((mS S L cd rd n).getD b []) := by
  intro n
  induction n with
  | zero =>
    intro _ b _
    rw [mS, getD_rep]
    exact ⟨fun x => by simp, List.Pairwise.nil⟩
  | succ n ih =>
    intro hn b hb
    have ih := ih (by omega)
    obtain ⟨qa, qm⟩ := q_asc h (n := n) (by omega) ih
    have hl := mS_len (S := S) (L := L) (cd := cd) (rd := rd) n
    have e : (mS S L cd rd (n + 1)).getD b [] = (cutS (mS S L cd rd n) n).getD b [] ++ (qAt L rd (mS S L cd rd n) n).filter fun x => dst S (cd x) n == b := by
      rw [mS, foldS_at hb _ _ (by rw [cutS_len]; exact hl)]
    rw [e, cutS_at (by omega)]
    have hm2 : ∀ x, x ∈ (qAt L rd (mS S L cd rd n) n).filter (fun x => dst S (cd x) n == b) ↔ (x < L ∧ (rd x = n ∨ (rd x < n ∧ dst S (cd x) (n - 1) = n - 1))) ∧ dst S (cd x) n = b := fun x => by
      rw [List.mem_filter, qm, beq_iff_eq]
    rcases Nat.eq_zero_or_pos n with h0 | h0
    · subst h0
      have he : (mS S L cd rd 0).getD b [] = [] := by rw [mS, getD_rep]
      rw [if_neg (by omega), he, List.nil_append]
      refine ⟨fun x => ?_, by rw [Nat.add_sub_cancel]; exact qa.filter _⟩
      rw [hm2, Nat.add_sub_cancel]
      constructor
      · rintro ⟨⟨a, c⟩, d⟩; exact ⟨a, by omega, d⟩
      · rintro ⟨a, c, d⟩; exact ⟨⟨a, Or.inl (by omega)⟩, d⟩
    · obtain ⟨t, rfl⟩ : ∃ t, n = t + 1 := ⟨n - 1, by omega⟩
      by_cases g : b = t
      · subst g
        rw [if_pos rfl, List.nil_append]
        refine ⟨fun x => ?_, by rw [Nat.add_sub_cancel]; exact qa.filter _⟩
        rw [hm2]
        simp only [Nat.add_sub_cancel]
        have := (dst_bd (S := S) (K := cd x) (t := b + 1) (by omega)).1
        constructor
        · rintro ⟨_, d⟩; omega
        · rintro ⟨_, _, d⟩; omega
      · rw [if_neg (by omega)]
        have ho := ih b hb
        have hoff : ∀ x ∈ (mS S L cd rd (t + 1)).getD b [], x < L ∧ rd x < t + 1 ∧ bitN (cd x) t = false ∧ dst S (cd x) (t + 1) = b := fun x hx => by
          obtain ⟨a, c, d⟩ := (ho.mem x).1 hx
          rw [Nat.add_sub_cancel] at d
          obtain ⟨e1, e2⟩ := dst_skip (S := S) (K := cd x) (t := t) (by omega) (by omega)
          exact ⟨a, c, e1, by omega⟩
        refine ⟨fun x => ?_, ?_⟩
        · rw [List.mem_append, hm2, ho.mem, Nat.add_sub_cancel, Nat.add_sub_cancel]
          constructor
          · rintro (⟨a, c, d⟩ | ⟨⟨a, c⟩, d⟩)
            · obtain ⟨e1, e2⟩ := dst_skip (S := S) (K := cd x) (t := t) (by omega) (by omega)
              exact ⟨a, by omega, by omega⟩
            · exact ⟨a, by omega, d⟩
          · rintro ⟨a, c, d⟩
            by_cases e : rd x = t + 1
            · exact Or.inr ⟨⟨a, Or.inl e⟩, d⟩
            · by_cases f : dst S (cd x) t = t
              · exact Or.inr ⟨⟨a, Or.inr ⟨by omega, f⟩⟩, d⟩
              · obtain ⟨e1, e2⟩ := dst_skip (S := S) (K := cd x) (t := t) (by omega) f
                exact Or.inl ⟨a, by omega, by omega⟩
        · rw [Nat.add_sub_cancel]
          refine List.pairwise_append.2 ⟨?_, qa.filter _, fun x hx y hy => ?_⟩
          · refine ho.asc.imp_of_mem fun {x y} hx hy hxy => ?_
            rw [Nat.add_sub_cancel] at hxy
            exact lt_off (hoff x hx).2.2.1 (hoff y hy).2.2.1 hxy
          · obtain ⟨a, c, d, _⟩ := hoff x hx
            obtain ⟨⟨a', c'⟩, d'⟩ := (hm2 y).1 hy
            rcases c' with c' | ⟨c', c''⟩
            · exact lt_come h a (by omega) a' c'
            · rw [Nat.add_sub_cancel] at c''
              exact lt_offon d (dst_hit (by omega) c'')
theorem onT_all (h : FitN S L T cd rd tn) : ∀ n, n ≤ S + 1 → ∀ b, b < T → OnT S L cd rd tn n b ((mT S L T cd rd tn n).getD b []) := by
  intro n
  induction n with
  | zero =>
    intro _ b _
    rw [mT, getD_rep]
    exact ⟨fun x => by simp, List.Pairwise.nil⟩
  | succ n ih =>
    intro hn b hb
    have ho := ih (by omega) b hb
    obtain ⟨qa, qm⟩ := q_asc h (n := n) (by omega) (onS_all h n (by omega))
    have e : (mT S L T cd rd tn (n + 1)).getD b [] = (mT S L T cd rd tn n).getD b [] ++ (qAt L rd (mS S L cd rd n) n).filter fun x => decide (S ≤ dst S (cd x) n) && (tn x == b) := by
      rw [mT, foldT_at hb _ _ (mT_len n) (fun x hx => h.trn x ((qm x).1 hx).1)]
    rw [e]
    have hd : ∀ x, dst S (cd x) n ≤ S := fun x => (dst_bd (S := S) (K := cd x) (t := n) (by omega)).2
    have hm2 : ∀ x, x ∈ (qAt L rd (mS S L cd rd n) n).filter (fun x => decide (S ≤ dst S (cd x) n) && (tn x == b)) ↔ (x < L ∧ (rd x = n ∨ (rd x < n ∧ dst S (cd x) (n - 1) = n - 1))) ∧ dst S (cd x) n = S ∧ tn x = b := fun x => by
      rw [List.mem_filter, qm, Bool.and_eq_true, decide_eq_true_eq, beq_iff_eq]
      have := hd x
      constructor
      · rintro ⟨a, c, d⟩; exact ⟨a, by omega, d⟩
      · rintro ⟨a, c, d⟩; exact ⟨a, by omega, d⟩
    rcases Nat.eq_zero_or_pos n with h0 | h0
    · subst h0
      have he : (mT S L T cd rd tn 0).getD b [] = [] := by rw [mT, getD_rep]
      rw [he, List.nil_append]
      refine ⟨fun x => ?_, by rw [Nat.add_sub_cancel]; exact qa.filter _⟩
      rw [hm2, Nat.add_sub_cancel]
      constructor
      · rintro ⟨⟨a, c⟩, d⟩; exact ⟨a, by omega, d⟩
      · rintro ⟨a, c, d⟩; exact ⟨⟨a, Or.inl (by omega)⟩, d⟩
    · obtain ⟨t, rfl⟩ : ∃ t, n = t + 1 := ⟨n - 1, by omega⟩
      have hoff : ∀ x ∈ (mT S L T cd rd tn (t + 1)).getD b [], x < L ∧ rd x < t + 1 ∧ bitN (cd x) t = false := fun x hx => by
        obtain ⟨a, c, d, _⟩ := (ho.mem x).1 hx
        rw [Nat.add_sub_cancel] at d
        exact ⟨a, c, (dst_skip (S := S) (K := cd x) (t := t) (by omega) (by omega)).1⟩
      refine ⟨fun x => ?_, ?_⟩
      · rw [List.mem_append, hm2, ho.mem, Nat.add_sub_cancel, Nat.add_sub_cancel]
        constructor
        · rintro (⟨a, c, d, f⟩ | ⟨⟨a, c⟩, d⟩)
          · have := (dst_skip (S := S) (K := cd x) (t := t) (by omega) (by omega)).2
            exact ⟨a, by omega, by omega, f⟩
          · exact ⟨a, by omega, d⟩
        · rintro ⟨a, c, d⟩
          by_cases e : rd x = t + 1
          · exact Or.inr ⟨⟨a, Or.inl e⟩, d⟩
          · by_cases f : dst S (cd x) t = t
            · exact Or.inr ⟨⟨a, Or.inr ⟨by omega, f⟩⟩, d⟩
            · have := (dst_skip (S := S) (K := cd x) (t := t) (by omega) f).2
              exact Or.inl ⟨a, by omega, by omega, d.2⟩
      · rw [Nat.add_sub_cancel]
        refine List.pairwise_append.2 ⟨?_, qa.filter _, fun x hx y hy => ?_⟩
        · refine ho.asc.imp_of_mem fun {x y} hx hy hxy => ?_
          rw [Nat.add_sub_cancel] at hxy
          exact lt_off (hoff x hx).2.2 (hoff y hy).2.2 hxy
        · obtain ⟨a, c, d⟩ := hoff x hx
          obtain ⟨⟨a', c'⟩, d'⟩ := (hm2 y).1 hy
          rcases c' with c' | ⟨c', c''⟩
          · exact lt_come h a (by omega) a' c'
          · rw [Nat.add_sub_cancel] at c''
            exact lt_offon d (dst_hit (by omega) c'')
theorem ltN_nodup {t : Nat} {p : List Nat} (h : p.Pairwise (ltN cd t)) : p.Nodup := h.imp fun {x y} hxy e => by
  subst e; unfold ltN at hxy; omega
end
end Go.Proofs.Ytkopbnppjhdbgaa

namespace Go.Proofs.Ytkopbnppjhdbgaa

theorem cnt_flat (x d : Nat) : ∀ (ls : List (List Nat)) (off : Nat), (∀ b, b < ls.length → (ls.getD b []).count x = if b + off = d then 1 else 0) → ls.flatten.count x = if off ≤ d ∧ d < off + ls.length then 1 else 0 := by
  intro ls
  induction ls with
  | nil => intro off _; rw [if_neg (by rw [List.length_nil]; omega)]; rfl
  | cons p ls ih =>
    intro off h
    have h0 := h 0 (by simp)
    have h1 := ih (off + 1) (fun b hb => by
      have := h (b + 1) (by simp; omega)
      rw [show b + (off + 1) = b + 1 + off by omega]
      exact this)
    rw [List.flatten_cons, List.count_append, h1]
    have h0' : p.count x = if 0 + off = d then 1 else 0 := h0
    rw [h0', List.length_cons]
    by_cases e : off = d
    · rw [if_pos (by omega), if_neg (by omega), if_pos (by omega)]
    · rw [if_neg (by omega)]
      by_cases g : off + 1 ≤ d ∧ d < off + 1 + ls.length
      · rw [if_pos g, if_pos (by omega)]
      · rw [if_neg g, if_neg (by omega)]
theorem cnt_zero (x : Nat) (ls : List (List Nat)) (h : ∀ b, b < ls.length → (ls.getD b []).count x = 0) : ls.flatten.count x = 0 := by
  rw [cnt_flat x ls.length ls 0 (fun b hb => by rw [h b hb, if_neg (by omega)]), if_neg (by omega)]
theorem cnt_one {p : List Nat} (h : p.Nodup) {x : Nat} {P : Prop} [Decidable P] (hm : x ∈ p ↔ P) : p.count x = if P then 1 else 0 := by
  by_cases g : P
  · rw [if_pos g, h.count, if_pos (hm.2 g)]
  · rw [if_neg g, h.count, if_neg (fun e => g (hm.1 e))]
section
variable {S L T : Nat} {cd rd tn : Nat → Nat}
theorem cntS (h : FitN S L T cd rd tn) {n : Nat} (hn : n ≤ S + 1) (x : Nat) : (mS S L cd rd n).flatten.count x = if x < L ∧ rd x < n ∧ dst S (cd x) (n - 1) < S then 1 else 0 := by
  have hl := mS_len (S := S) (L := L) (cd := cd) (rd := rd) n
  by_cases g : x < L ∧ rd x < n
  · rw [cnt_flat x (dst S (cd x) (n - 1)) _ 0 (fun b hb => ?_), hl]
    · by_cases e : dst S (cd x) (n - 1) < S
      · rw [if_pos (by omega), if_pos ⟨g.1, g.2, e⟩]
      · rw [if_neg (by omega), if_neg (by omega)]
    · rw [hl] at hb
      have ho := onS_all h n hn b hb
      rw [cnt_one (ltN_nodup ho.asc) (P := b + 0 = dst S (cd x) (n - 1)) (by rw [ho.mem]; exact ⟨fun k => by omega, fun k => ⟨g.1, g.2, by omega⟩⟩)]
  · rw [cnt_zero x _ (fun b hb => ?_), if_neg (fun k => g ⟨k.1, k.2.1⟩)]
    rw [hl] at hb
    have ho := onS_all h n hn b hb
    rw [List.count_eq_zero_of_not_mem (fun e => g ⟨((ho.mem x).1 e).1, ((ho.mem x).1 e).2.1⟩)]
theorem cntT (h : FitN S L T cd rd tn) {n : Nat} (hn : n ≤ S + 1) (x : Nat) : (mT S L T cd rd tn n).flatten.count x = if x < L ∧ rd x < n ∧ dst S (cd x) (n - 1) = S then 1 else 0 := by
  have hl := mT_len (S := S) (L := L) (T := T) (cd := cd) (rd := rd) (tn := tn) n
  by_cases g : x < L ∧ rd x < n ∧ dst S (cd x) (n - 1) = S
  · have ht := h.trn x g.1
    rw [cnt_flat x (tn x) _ 0 (fun b hb => ?_), hl, if_pos g, if_pos (by omega)]
    rw [hl] at hb
    have ho := onT_all h n hn b hb
    rw [cnt_one (ltN_nodup ho.asc) (P := b + 0 = tn x) (by rw [ho.mem]; exact ⟨fun k => by omega, fun k => ⟨g.1, g.2.1, g.2.2, by omega⟩⟩)]
  · rw [cnt_zero x _ (fun b hb => ?_), if_neg g]
    rw [hl] at hb
    have ho := onT_all h n hn b hb
    rw [List.count_eq_zero_of_not_mem (fun e => g ⟨((ho.mem x).1 e).1, ((ho.mem x).1 e).2.1, ((ho.mem x).1 e).2.2.1⟩)]
/-- Each item that was pushed stands once, no other one. -/
theorem cnt_all (h : FitN S L T cd rd tn) {n : Nat} (hn : n ≤ S + 1) (x : Nat) : (mS S L cd rd n).flatten.count x + (mT S L T cd rd tn n).flatten.count x = if x < L ∧ rd x < n then 1 else 0 := by
  rw [cntS h hn, cntT h hn]
  by_cases g : x < L ∧ rd x < n
  · have := (dst_bd (S := S) (K := cd x) (t := n - 1) (by omega)).2
    rw [if_pos g]
    by_cases e : dst S (cd x) (n - 1) = S
    · rw [if_neg (by omega), if_pos ⟨g.1, g.2, e⟩]
    · rw [if_pos ⟨g.1, g.2, by omega⟩, if_neg (fun k => e k.2.2)]
  · rw [if_neg (fun k => g ⟨k.1, k.2.1⟩), if_neg (fun k => g ⟨k.1, k.2.1⟩), if_neg g]
/-- The rounds are at most the steps. -/
theorem rd_le (h : FitN S L T cd rd tn) {x : Nat} (hx : x < L) : rd x ≤ S := by
  have h1 := h.cdl x hx
  have h2 := h.mis x hx
  rcases Nat.lt_or_ge S (rd x) with g | g
  · exfalso
    have h3 : 2 ^ (S + 1) ≤ 2 ^ rd x := Nat.pow_le_pow_right (by decide) g
    have h4 : 2 ^ (S + 1) = 2 ^ S + 2 ^ S := by rw [Nat.pow_succ]; omega
    have h5 := Nat.two_pow_pos S
    rw [Nat.mod_eq_of_lt (by omega)] at h2
    omega
  · exact g
/-- All items are in the trains at the end. -/
theorem flatT (h : FitN S L T cd rd tn) : (mT S L T cd rd tn (S + 1)).flatten.length = L := by
  have hp : (mT S L T cd rd tn (S + 1)).flatten.Perm (List.range L) := by
    rw [List.perm_iff_count]
    intro x
    rw [cntT h (Nat.le_refl _), Nat.add_sub_cancel, dst_end, cnt_one List.nodup_range (P := x < L) List.mem_range]
    by_cases g : x < L
    · rw [if_pos g, if_pos ⟨g, by have := rd_le h g; omega, rfl⟩]
    · rw [if_neg g, if_neg (fun k => g k.1)]
  rw [hp.length_eq, List.length_range]
/-- Sums over the items. -/
def sumN (f : Nat → Nat) : Nat → Nat
  | 0 => 0
  | k + 1 => sumN f k + f k
theorem sumN_add (f g : Nat → Nat) : ∀ k, sumN (fun x => f x + g x) k = sumN f k + sumN g k := by
  intro k
  induction k with
  | zero => rfl
  | succ k ih => unfold sumN; rw [ih]; omega
theorem sumN_congr {f g : Nat → Nat} : ∀ {k}, (∀ x, x < k → f x = g x) → sumN f k = sumN g k := by
  intro k
  induction k with
  | zero => intro _; rfl
  | succ k ih => intro h; unfold sumN; rw [ih (fun x hx => h x (by omega)), h k (by omega)]
theorem sumN_filter (P : Nat → Prop) [DecidablePred P] : ∀ k, ((List.range k).filter fun x => decide (P x)).length = sumN (fun x => if P x then 1 else 0) k := by
  intro k
  induction k with
  | zero => rfl
  | succ k ih =>
    rw [List.range_succ, List.filter_append, List.length_append, ih]
    show _ = sumN (fun x => if P x then 1 else 0) k + if P k then 1 else 0
    by_cases g : P k
    · simp [g]
    · simp [g]
theorem nodup_len {p : List Nat} (h : p.Nodup) {L : Nat} {P : Nat → Prop} [DecidablePred P] (hm : ∀ x, x ∈ p ↔ x < L ∧ P x) : p.length = sumN (fun x => if P x then 1 else 0) L := by
  rw [← sumN_filter]
  refine List.Perm.length_eq ?_
  rw [List.perm_iff_count]
  intro x
  rw [cnt_one h (hm x), cnt_one (List.Pairwise.filter _ List.nodup_range) (P := x < L ∧ P x) (by rw [List.mem_filter, List.mem_range, decide_eq_true_eq])]
/-- How many bits from R on are set below b. -/
def nbN (K R : Nat) : Nat → Nat
  | 0 => 0
  | b + 1 => nbN K R b + if R ≤ b ∧ bitN K b = true then 1 else 0
/-- An item is pushed once, and once more for each bit. -/
theorem mM_eq (h : FitN S L T cd rd tn) : ∀ n, n ≤ S + 1 → mM S L cd rd n = sumN (fun x => if rd x < n then 1 + nbN (cd x) (rd x) (n - 1) else 0) L := by
  intro n
  induction n with
  | zero =>
    intro _
    unfold mM
    have : ∀ k, sumN (fun x => if rd x < 0 then 1 + nbN (cd x) (rd x) (0 - 1) else 0) k = 0 := by
      intro k
      induction k with
      | zero => rfl
      | succ k ih => unfold sumN; rw [ih, if_neg (by omega)]
    rw [this]
  | succ n ih =>
    intro hn
    obtain ⟨qa, qm⟩ := q_asc h (n := n) (by omega) (onS_all h n (by omega))
    have hq := nodup_len (ltN_nodup qa) qm
    unfold mM
    rw [ih (by omega), hq, ← sumN_add]
    refine sumN_congr fun x hx => ?_
    rw [Nat.add_sub_cancel]
    rcases Nat.lt_trichotomy (rd x) n with g | g | g
    · obtain ⟨t, rfl⟩ : ∃ t, n = t + 1 := ⟨n - 1, by omega⟩
      rw [if_pos g, if_pos (show rd x < t + 1 + 1 by omega), Nat.add_sub_cancel]
      show _ = 1 + (nbN (cd x) (rd x) t + if rd x ≤ t ∧ bitN (cd x) t = true then 1 else 0)
      by_cases e : dst S (cd x) t = t
      · rw [if_pos (Or.inr ⟨g, e⟩), if_pos ⟨by omega, dst_hit (by omega) e⟩]; omega
      · rw [if_neg (by omega), if_neg (fun k => by have := (dst_skip (S := S) (K := cd x) (t := t) (by omega) e).1; rw [k.2] at this; cases this)]; rfl
    · rw [if_neg (by omega), if_pos (Or.inl g), if_pos (by omega), ← g]
      have hz : ∀ b, b ≤ rd x → nbN (cd x) (rd x) b = 0 := by
        intro b
        induction b with
        | zero => intro _; rfl
        | succ b ihb => intro hb; unfold nbN; rw [ihb (by omega), if_neg (by omega)]
      rw [hz _ (Nat.le_refl _)]
    · rw [if_neg (by omega), if_neg (by omega), if_neg (by omega)]
/-- Where something is pushed at each time. -/
theorem mP_eq : ∀ n, (∀ t, t < n → qAt L rd (mS S L cd rd t) t ≠ []) → mP S L cd rd n = n := by
  intro n
  induction n with
  | zero => intro _; rfl
  | succ n ih =>
    intro h
    unfold mP
    have h1 := h n (Nat.lt_succ_self n)
    rw [ih (fun t ht => h t (by omega)), if_neg (fun e => h1 (List.length_eq_zero_iff.1 e))]
theorem mP_le : ∀ n, mP S L cd rd n ≤ n := by
  intro n
  induction n with
  | zero => exact Nat.le_refl _
  | succ n ih => unfold mP; split <;> omega
theorem mP_none (h : L = 0) : ∀ n, mP S L cd rd n = 0 ∧ (∀ b, b < S → (mS S L cd rd n).getD b [] = []) := by
  subst h
  intro n
  induction n with
  | zero => exact ⟨rfl, fun b _ => by rw [mS, getD_rep]⟩
  | succ n ih =>
    have hq : qAt 0 rd (mS S 0 cd rd n) n = [] := by
      unfold qAt oldL comeL
      rw [List.range_zero, List.filter_nil, List.append_nil]
      by_cases e : n = 0
      · rw [if_pos e]
      · rw [if_neg e]
        by_cases g : n - 1 < S
        · exact ih.2 _ g
        · rw [List.getD_eq_getElem?_getD, List.getElem?_eq_none (by rw [mS_len]; omega)]; rfl
    refine ⟨?_, fun b hb => ?_⟩
    · unfold mP; rw [hq, ih.1]; rfl
    · rw [mS, hq, List.foldl_nil]
      unfold cutS
      by_cases e : n = 0
      · rw [if_pos e]; exact ih.2 b hb
      · rw [if_neg e]
        by_cases g : n - 1 < S
        · rw [getD_setL (by rw [mS_len]; exact g)]
          split
          · rfl
          · exact ih.2 b hb
        · rw [List.set_eq_of_length_le (by rw [mS_len]; omega)]; exact ih.2 b hb
/-- Something is pushed at a time at which an item comes, or whose bit an earlier item has. -/
theorem q_some (h : FitN S L T cd rd tn) {n x : Nat} (hn : n ≤ S) (hx : x < L) (hr : rd x = n ∨ (rd x < n ∧ bitN (cd x) (n - 1) = true)) : qAt L rd (mS S L cd rd n) n ≠ [] := by
  obtain ⟨_, qm⟩ := q_asc h hn (onS_all h n (by omega))
  have : x ∈ qAt L rd (mS S L cd rd n) n := (qm x).2 ⟨hx, by
    rcases hr with g | ⟨g, e⟩
    · exact Or.inl g
    · exact Or.inr ⟨g, dst_yes (by omega) e⟩⟩
  intro e
  rw [e] at this; cases this
/-- The sorting tracks up to a time are empty behind it. -/
theorem mS_low (h : FitN S L T cd rd tn) {n b : Nat} (hn : n ≤ S + 1) (hb : b + 1 < n) : (mS S L cd rd n).getD b [] = [] := by
  have ho := onS_all h n hn b (by omega)
  cases e : (mS S L cd rd n).getD b [] with
  | nil => rfl
  | cons x p =>
    exfalso
    have := (ho.mem x).1 (by rw [e]; exact List.mem_cons_self ..)
    have := (dst_bd (S := S) (K := cd x) (t := n - 1) (by omega)).1
    omega
/-- What is on the track of a train at the end. -/
theorem onT_end (h : FitN S L T cd rd tn) {b : Nat} (hb : b < T) :
    (∀ x, x ∈ (mT S L T cd rd tn (S + 1)).getD b [] ↔ x < L ∧ tn x = b) ∧ ((mT S L T cd rd tn (S + 1)).getD b []).Pairwise (fun x y => cd x < cd y ∨ (cd x = cd y ∧ x < y)) := by
  have ho := onT_all h (S + 1) (Nat.le_refl _) b hb
  refine ⟨fun x => ?_, ?_⟩
  · rw [ho.mem, Nat.add_sub_cancel, dst_end]
    constructor
    · rintro ⟨a, _, _, c⟩; exact ⟨a, c⟩
    · rintro ⟨a, c⟩; exact ⟨a, by have := rd_le h a; omega, rfl, c⟩
  · refine ho.asc.imp_of_mem fun {x y} hx hy hxy => ?_
    rw [Nat.add_sub_cancel] at hxy
    have h1 := h.cdl x ((ho.mem x).1 hx).1
    have h2 := h.cdl y ((ho.mem y).1 hy).1
    unfold ltN at hxy
    rwa [Nat.mod_eq_of_lt h1, Nat.mod_eq_of_lt h2] at hxy
end
end Go.Proofs.Ytkopbnppjhdbgaa

namespace Go.Proofs.Ytkopbnppjhdbgaa
open Go.RowKit Go.Lib

/-- The code of item x is below 2^Steps and of the form. -/
def okC (l : List It) (wt st : Int) (v : List Int) (x : Nat) : Bool := decide (v.getD x 0 < 2 ^ st.toNat) && isZ (v.getD x 0) (rnd l x) wt
def fitB (l : List It) (wt st : Int) (v : List Int) : Bool := (decide (0 ≤ st) && decide (st ≤ 12)) && ((v.length == l.length) && (List.range l.length).all fun x => okC l wt st v x)
theorem fitB_iff {l : List It} {wt st : Int} {v : List Int} : fitB l wt st v = true ↔ (0 ≤ st ∧ st ≤ 12) ∧ v.length = l.length ∧ ∀ x, x < l.length → okC l wt st v x = true := by
  unfold fitB
  simp only [Bool.and_eq_true, decide_eq_true_eq, beq_iff_eq, List.all_eq_true, List.mem_range]
theorem fitB_st {l : List It} {wt st : Int} {v : List Int} (h : ¬ (0 ≤ st ∧ st ≤ 12)) : fitB l wt st v = false := Bool.eq_false_iff.2 fun g => h (fitB_iff.1 g).1
theorem fitB_len {l : List It} {wt st : Int} {v : List Int} (h : v.length ≠ l.length) : fitB l wt st v = false := Bool.eq_false_iff.2 fun g => h (fitB_iff.1 g).2.1
theorem fitB_at {l : List It} {wt st : Int} {v : List Int} {x : Nat} (hx : x < l.length) (h : okC l wt st v x = false) : fitB l wt st v = false := Bool.eq_false_iff.2 fun g => by
  have := (fitB_iff.1 g).2.2 x hx
  rw [h] at this; cases this
/-- What Valid answers. -/
def val14 (l : List It) (wt st : Int) (v : List Int) : Int := if validR l wt = 0 then (if fitB l wt st v = true then 0 else 1) else validR l wt
/-- The box of a plan that has just been laid. -/
theorem pbox2 (w : World) (A : Option Addr) (L c : Nat) (wt st : Int) (pA : Option Addr) (n pc : Nat) :
    JBox ((w.alloc (.cells #[.slice A L c, .int .i64 wt] 24)).alloc (.cells #[.int .i64 st, .slice pA n pc] 27)) w.heap.size A L c wt ∧
    PBox ((w.alloc (.cells #[.slice A L c, .int .i64 wt] 24)).alloc (.cells #[.int .i64 st, .slice pA n pc] 27)) (w.heap.size + 1) st pA n pc ∧
    Below w.heap.size w ((w.alloc (.cells #[.slice A L c, .int .i64 wt] 24)).alloc (.cells #[.int .i64 st, .slice pA n pc] 27)) := by
  have J0 := JBox.new (w := w) (A := A) (n := L) (c := c) (wt := wt) w.heap.size rfl
  have s1 : (w.alloc (.cells #[.slice A L c, .int .i64 wt] 24)).heap.size = w.heap.size + 1 := by simp
  have b1 := (Below.refl _ (w.alloc (.cells #[.slice A L c, .int .i64 wt] 24))).alloc (Nat.le_refl _) (.cells #[.int .i64 st, .slice pA n pc] 27)
  have B0 := (Below.refl w.heap.size w).alloc (Nat.le_refl _) (.cells #[.slice A L c, .int .i64 wt] 24)
  exact ⟨J0.below b1 J0.lt, PBox.new _ s1.symm, B0.trans (b1.mono B0.size)⟩
set_option maxRecDepth 100000 in
set_option maxHeartbeats 1600000 in
theorem fits_any (l : List It) (A : Option Addr) (c L : Nat) (wt st : Int) (v : List Int) (pA : Option Addr) (n pc : Nat) (hL : L = l.length) (hn : n = v.length) (hv : validR l wt = 0) (w : World) (h : IRow w A l) (hp : Row .i64 w w.heap.size pA v) (hm : v.length ≤ maxLen) :
    Calls Try.prog 50 #[jv A L c wt, pv st pA n pc] w fun e w' => e = .returned (.bool (fitB l wt st v)) ∧ Below w.heap.size w w' := by
  have hl : L ≤ 96 := by rw [hL]; exact (valid_ok hv).1
  have hnl : n ≤ 9223372036854775807 := by rw [hn]; exact hm
  obtain ⟨HJ0, HP0, HB0⟩ := pbox2 w A L c wt st pA n pc
  have HJ := Lib.hid HJ0
  have HP := Lib.hid HP0
  have HB := Lib.hid HB0
  have H := Lib.hid (h.below HB0)
  have HR := Lib.hid (hp.below HB0)
  have HL := Lib.hid hL
  have HN := Lib.hid hn
  have HV := Lib.hid hv
  clear h hp HJ0 HP0 HB0 hL hn hv hm
  obtain ⟨b, hb⟩ : ∃ b, b = w.heap.size := ⟨_, rfl⟩
  go_enter Try.func50, Try.ntmps50
  go_upto_region 1 with fail
  rw [← hb] at HJ HP ⊢
  generalize (w.alloc (.cells #[.slice A L c, .int .i64 wt] 24)).alloc (.cells #[.int .i64 st, .slice pA n pc] 27) = w1 at *
  clear hb
  obtain ⟨j0, j1, jl⟩ := HJ.out
  obtain ⟨p0, p1, -, pl⟩ := HP.out
  by_cases h0 : st < 0
  · have HF := Lib.hid (fitB_st (l := l) (wt := wt) (v := v) (show ¬ (0 ≤ st ∧ st ≤ 12) by omega))
    go_wp2_with fail
    go_ret
    exact ⟨ret_bool HF.out.symm, HB.out⟩
  by_cases h12 : 12 < st
  · have HF := Lib.hid (fitB_st (l := l) (wt := wt) (v := v) (show ¬ (0 ≤ st ∧ st ≤ 12) by omega))
    go_wp2_with fail
    go_ret
    exact ⟨ret_bool HF.out.symm, HB.out⟩
  by_cases hnL : n = L
  · subst hnL
    obtain ⟨S, rfl⟩ := Int.eq_ofNat_of_zero_le (show 0 ≤ st by omega)
    have hS : S ≤ 12 := by omega
    have hkk : ((n : Int) != (n : Int)) = false := by simp
    clear h0 h12 hnl
    have h0' : ¬ (S : Int) < 0 := by omega
    have h12' : ¬ (12 : Int) < (S : Int) := by omega
    go_wp2_with fail
    clear hkk h0' h12'
    go_loopw [27] (fun iv wr => ∃ k : Nat, k ≤ n ∧ iv = .int .i64 (k : Int) ∧ Hid (∀ x, x < k → okC l wt (S : Int) v x = true) ∧ Hid (∃ q, wr = w1.drewN q)) (fun iv _ => n - (intOf iv).toNat)
    case atStart => exact ⟨0, by omega, rfl, Lib.hid (fun x hx => absurd hx (Nat.not_lt_zero _)), Lib.hid ⟨0, rfl⟩⟩
    case round =>
      obtain ⟨k, hk, rfl, F, HW⟩ := hrel
      have BW := Lib.hid (show Below w1.heap.size w1 wr by obtain ⟨q, e⟩ := HW.out; rw [e]; exact ⟨rfl, rfl, rfl, Nat.le_refl _, fun _ _ => rfl⟩)
      by_cases hlt : k < n
      · have hkl : k < l.length := by rw [← HL.out]; exact hlt
        obtain ⟨pad, rfl, plt, cp⟩ := (HR.out.below BW.out) k (by rw [← HN.out]; exact hlt)
        obtain ⟨aA, rfl, CE⟩ := (H.out.below BW.out).at_ k hkl
        obtain ⟨-, -, r2, -⟩ := CE.spelt
        replace r2 : wr.cell? ⟨(aA.add (k * 4)).block, (aA.add (k * 4)).off + 2, none⟩ = some (.int .i64 (rnd l k)) := r2
        have j0 := (BW.out.cell (p := ⟨b, 0, none⟩) HJ.out.lt).trans HJ.out.c0
        have j1 := (BW.out.cell (p := ⟨b, 1, none⟩) HJ.out.lt).trans HJ.out.c1
        have p0 := (BW.out.cell (p := ⟨b + 1, 0, none⟩) HP.out.lt).trans HP.out.c0
        have p1 := (BW.out.cell (p := ⟨b + 1, 1, none⟩) HP.out.lt).trans HP.out.c1
        have hki : (k : Int) < (n : Int) := by omega
        have HRI := Lib.hid (fun W => is_any (v.getD k 0) (rnd l k) wt W)
        have HOK := Lib.hid (show okC l wt (S : Int) v k = (decide (v.getD k 0 < 2 ^ S) && isZ (v.getD k 0) (rnd l k) wt) from rfl)
        have hpw := powW hS
        have hp4 := pow_le4096 hS
        have hpe : ((2 : Int) ^ S) = ((2 ^ S : Nat) : Int) := by simp
        rw [hpe] at HOK
        clear hpe CE
        generalize v.getD k 0 = vk at *
        generalize rnd l k = rr at *
        obtain ⟨P, hP⟩ : ∃ P, P = 2 ^ S := ⟨_, rfl⟩
        rw [← hP] at hpw hp4 HOK
        clear hP
        by_cases hge : (P : Int) ≤ vk
        · have HF := Lib.hid (fitB_at (l := l) (wt := wt) (st := (S : Int)) (v := v) hkl (by rw [HOK.out, decide_eq_false (by omega)]; rfl))
          have hgd : decide ((P : Int) ≤ vk) = true := decide_eq_true hge
          go_wp2_with fail
          go_quiet (fail)
          clear j0 j1 p0 p1 cp r2 hpw
          go_wp2_with fail
          go_ret
          exact ⟨ret_bool HF.out.symm, by have := HB.out.trans (BW.out.mono HB.out.size); exact this.trans ⟨rfl, rfl, rfl, Nat.le_refl _, fun _ _ => rfl⟩⟩
        · have hgd : decide ((P : Int) ≤ vk) = false := decide_eq_false hge
          cases hz : isZ vk rr wt with
          | false =>
            rw [hz] at HRI HOK
            have HF := Lib.hid (fitB_at (l := l) (wt := wt) (st := (S : Int)) (v := v) hkl (by rw [HOK.out]; simp))
            go_wp2_with fail
            go_quiet ((go_at_call 64; exact Calls.quiet_of_same ((HRI.out _).mono fun _ _ h => ⟨h.1, h.2.symm⟩)))
            clear j0 j1 p0 p1 cp r2 hpw
            go_wp2_with fail
            go_ret
            exact ⟨ret_bool HF.out.symm, by have := HB.out.trans (BW.out.mono HB.out.size); exact this.trans ⟨rfl, rfl, rfl, Nat.le_refl _, fun _ _ => rfl⟩⟩
          | true =>
            rw [hz] at HRI HOK
            have HF2 := Lib.hid (show ∀ x, x < k + 1 → okC l wt (S : Int) v x = true from fun x hx => by
              rcases Nat.lt_or_ge x k with g | g
              · exact F.out x g
              · obtain rfl : x = k := by omega
                rw [HOK.out, decide_eq_true (by omega)]; rfl)
            go_wp2_with fail
            go_quiet ((go_at_call 64; exact Calls.quiet_of_same ((HRI.out _).mono fun _ _ h => ⟨h.1, h.2.symm⟩)))
            clear j0 j1 p0 p1 cp r2 hpw
            go_wp2_with fail
            go_roundw
            case rel => exact ⟨k + 1, by omega, by go_num, HF2, Lib.hid (by obtain ⟨q, e⟩ := HW.out; exact ⟨q + nq, by rw [e, World.drewN_drewN]⟩)⟩
            case measure => simp [intOf]; omega
      · obtain rfl : k = n := by omega
        have HF := Lib.hid (show fitB l wt (k : Int) v = fitB l wt (k : Int) v from rfl)
        have HT := Lib.hid (show fitB l wt (S : Int) v = true from fitB_iff.2 ⟨by omega, by rw [← HN.out, HL.out], fun x hx => F.out x (by rw [HL.out]; exact hx)⟩)
        go_wp2_with fail
        go_ret
        exact ⟨ret_bool HT.out.symm, HB.out.trans (BW.out.mono HB.out.size)⟩
  · have HF := Lib.hid (fitB_len (l := l) (wt := wt) (st := st) (v := v) (by rw [← HL.out, ← HN.out]; exact hnL))
    have hkk : ((n : Int) != (L : Int)) = true := by simp; omega
    go_wp2_with fail
    go_ret
    exact ⟨ret_bool HF.out.symm, HB.out⟩
end Go.Proofs.Ytkopbnppjhdbgaa

namespace Go.Proofs.Ytkopbnppjhdbgaa
open Go.RowKit Go.Lib

set_option maxHeartbeats 800000 in
theorem val14_any (l : List It) (A : Option Addr) (c L : Nat) (wt st : Int) (v : List Int) (pA : Option Addr) (n pc : Nat) (hL : L = l.length) (hn : n = v.length) (w : World) (h : IRow w A l) (hp : Row .i64 w w.heap.size pA v) (hm : v.length ≤ maxLen) :
    Calls Try.prog 32 #[jv A L c wt, pv st pA n pc] w fun e w' => e = .returned (.int .i64 (val14 l wt st v)) ∧ Below w.heap.size w w' := by
  obtain ⟨HJ0, HP0, HB0⟩ := pbox2 w A L c wt st pA n pc
  have HJ := Lib.hid HJ0
  have HP := Lib.hid HP0
  have HB := Lib.hid HB0
  have H := Lib.hid h
  have HR := Lib.hid hp
  have HM := Lib.hid hm
  have HV := Lib.hid (fun (W : World) (k : IRow W A l) => valid_any l A c wt W k)
  rw [← hL] at HV
  have HF := Lib.hid (fun hv (W : World) (k : IRow W A l) (q : Row .i64 W W.heap.size pA v) => fits_any l A c L wt st v pA n pc hL hn hv W k q hm)
  clear h hp HJ0 HP0 HB0 hm hL hn
  obtain ⟨b, hb⟩ : ∃ b, b = w.heap.size := ⟨_, rfl⟩
  go_enter Try.func32, Try.ntmps32
  go_upto_region 1 with fail
  rw [← hb] at HJ HP ⊢
  generalize (w.alloc (.cells #[.slice A L c, .int .i64 wt] 24)).alloc (.cells #[.int .i64 st, .slice pA n pc] 27) = w1 at *
  clear hb
  obtain ⟨j0, j1, jl⟩ := HJ.out
  obtain ⟨p0, p1, -, pl⟩ := HP.out
  go_wp2_with fail
  refine (HV.out w1 (H.out.below HB.out)).mono ?_
  rintro e w2 ⟨rfl, B2⟩
  have j0 := (B2.cell (p := ⟨b, 0, none⟩) HJ.out.lt).trans HJ.out.c0
  have j1 := (B2.cell (p := ⟨b, 1, none⟩) HJ.out.lt).trans HJ.out.c1
  have p0 := (B2.cell (p := ⟨b + 1, 0, none⟩) HP.out.lt).trans HP.out.c0
  have p1 := (B2.cell (p := ⟨b + 1, 1, none⟩) HP.out.lt).trans HP.out.c1
  have HB2 := Lib.hid (HB.out.trans (B2.mono HB.out.size))
  clear B2
  by_cases hv : validR l wt = 0
  · have HFF := Lib.hid (HF.out hv w2 (H.out.below HB2.out) (HR.out.below HB2.out))
    rw [hv]
    cases hf : fitB l wt st v with
    | true =>
      have HE := Lib.hid (show val14 l wt st v = 0 by unfold val14; rw [if_pos hv, if_pos hf])
      rw [hf] at HFF
      clear hv hf
      go_wp2_with fail
      refine HFF.out.mono ?_
      rintro e w3 ⟨rfl, B3⟩
      have HB3 := Lib.hid (HB2.out.trans (B3.mono HB2.out.size))
      clear B3 j0 j1 p0 p1 jl pl
      go_wp2_with fail
      go_ret
      exact ⟨ret_int HE.out.symm, HB3.out⟩
    | false =>
      have HE := Lib.hid (show val14 l wt st v = 1 by unfold val14; rw [if_pos hv, if_neg (by rw [hf]; exact Bool.false_ne_true)])
      rw [hf] at HFF
      clear hv hf
      go_wp2_with fail
      refine HFF.out.mono ?_
      rintro e w3 ⟨rfl, B3⟩
      have HB3 := Lib.hid (HB2.out.trans (B3.mono HB2.out.size))
      clear B3 j0 j1 p0 p1 jl pl
      go_wp2_with fail
      go_ret
      exact ⟨ret_int HE.out.symm, HB3.out⟩
  · have HE := Lib.hid (show val14 l wt st v = validR l wt by unfold val14; rw [if_neg hv])
    have hne : (validR l wt != 0) = true := bne_iff_ne.2 hv
    generalize validR l wt = er at *
    clear hv HF
    go_wp2_with fail
    go_ret
    exact ⟨ret_int HE.out.symm, HB2.out⟩

/-- The number of tracks of the trains of the first k items. -/
def tcI (l : List It) : Nat → Int
  | 0 => 0
  | k + 1 => max2 (tcI l k) (trn l k + 1)
theorem tcI_bd {l : List It} (h : ∀ p ∈ l, okI p) : ∀ k, k ≤ l.length → (0 ≤ tcI l k ∧ tcI l k ≤ 16) ∧ ∀ y, y < k → trn l y < tcI l k := by
  intro k
  induction k with
  | zero => intro _; exact ⟨⟨Int.le_refl _, by show (0 : Int) ≤ 16; omega⟩, fun y hy => absurd hy (Nat.not_lt_zero _)⟩
  | succ k ih =>
    intro hk
    obtain ⟨i1, i2⟩ := ih (by omega)
    have hb : 0 ≤ trn l k ∧ trn l k ≤ 15 := (h _ (getD_memI (k := k) (by omega))).1
    have e : tcI l (k + 1) = if tcI l k < trn l k + 1 then trn l k + 1 else tcI l k := rfl
    rw [e]
    refine ⟨by split <;> omega, fun y hy => ?_⟩
    rcases Nat.lt_or_ge y k with g | g
    · have := i2 y g
      split <;> omega
    · obtain rfl : y = k := by omega
      split <;> omega
set_option maxRecDepth 100000 in
set_option maxHeartbeats 800000 in
theorem trainCount_any (l : List It) (A : Option Addr) (c L : Nat) (hL : L = l.length) (hv : ∀ p ∈ l, okI p) (w : World) (h : IRow w A l) :
    Calls Try.prog 34 #[.slice A L c] w fun e w' => e = .returned (.int .i64 (tcI l l.length)) ∧ Below w.heap.size w w' := by
  have hl : L ≤ 9223372036854775807 := by rw [hL]; exact h.len
  have H := Lib.hid h
  have HL := Lib.hid hL
  have HV := Lib.hid hv
  rw [← hL]
  clear h hL hv
  go_enter Try.func34, Try.ntmps34
  go_wp2_with fail
  go_loopw [3, 8] (fun mv iv wr => ∃ k : Nat, k ≤ L ∧ iv = .int .i64 (k : Int) ∧ mv = .int .i64 (tcI l k) ∧ Hid (Below w.heap.size w wr)) (fun _ iv _ => L - (intOf iv).toNat)
  case atStart => exact ⟨0, by omega, rfl, rfl, Lib.hid (Below.refl _ _)⟩
  case round =>
    obtain ⟨k, hk, rfl, rfl, BR⟩ := hrel
    by_cases hlt : k < L
    · have hkl : k < l.length := by rw [← HL.out]; exact hlt
      obtain ⟨aA, rfl, CE⟩ := (H.out.below BR.out).at_ k hkl
      obtain ⟨c0, c1, c2, c3⟩ := CE.spelt
      replace c0 : wr.cell? (aA.add (k * 4)) = some (.int .i64 (trn l k)) := c0
      have hki : (k : Int) < (L : Int) := by omega
      have hb : 0 ≤ trn l k ∧ trn l k ≤ 15 := (HV.out _ (getD_memI hkl)).1
      have hN : tcI l (k + 1) = max2 (tcI l k) (trn l k + 1) := rfl
      have HN := Lib.hid hN
      have BR2 := Lib.hid (BR.out.alloc BR.out.size (.cells #[.int .i64 (l.getD k it0).1, .int .i64 (l.getD k it0).2.1, .int .i64 (l.getD k it0).2.2.1, .int .i64 (l.getD k it0).2.2.2] 29))
      have BR2 : Hid (Below w.heap.size w (wr.alloc (.cells #[.int .i64 (trn l k), .int .i64 (l.getD k it0).2.1, .int .i64 (l.getD k it0).2.2.1, .int .i64 (l.getD k it0).2.2.2] 29))) := BR2
      clear CE hN BR
      generalize trn l k = tr at *
      generalize (l.getD k it0).2.1 = bl at *
      generalize (l.getD k it0).2.2.1 = ro at *
      generalize (l.getD k it0).2.2.2 = le at *
      obtain ⟨m2, hm2⟩ : ∃ m, m = max2 (tcI l k) (tr + 1) := ⟨_, rfl⟩
      obtain ⟨m0, hm0⟩ : ∃ m, m = tcI l k := ⟨_, rfl⟩
      rw [← hm0] at hm2 ⊢
      have hmx : ∀ w ts t, (Builtin.max_ ts t #[.int .i64 m0, .int .i64 (tr + 1)]).run Try.prog w = .ok (.int .i64 m2) w := fun w ts t => by rw [run_max2, hm2]
      have HN2 := Lib.hid (show m2 = tcI l (k + 1) by rw [hm2, hm0]; exact HN.out.symm)
      clear hm2 hm0 HN
      go_wp2_with fail
      go_roundw
      case rel => exact ⟨k + 1, by omega, by go_num, by rw [HN2.out], BR2⟩
      case measure => simp [intOf]; omega
    · obtain rfl : k = L := by omega
      go_wp2_with fail
      go_ret
      exact ⟨rfl, BR.out⟩
set_option maxRecDepth 100000 in
set_option maxHeartbeats 800000 in
theorem rtrains_any (l : List It) (A : Option Addr) (c L : Nat) (wt : Int) (hL : L = l.length) (hv : ∀ p ∈ l, okI p) (w : World) (h : IRow w A l) :
    Calls Try.prog 55 #[jv A L c wt] w fun e w' => e = .returned (.int .i64 (tcI l l.length)) ∧ Below w.heap.size w w' := by
  have hl : L ≤ 9223372036854775807 := by rw [hL]; exact h.len
  have HB := Lib.hid ((Below.refl w.heap.size w).alloc (Nat.le_refl _) (.cells #[.slice A L c, .int .i64 wt] 24))
  have HJ := Lib.hid (JBox.new (w := w) (A := A) (n := L) (c := c) (wt := wt) w.heap.size rfl)
  have H := Lib.hid (h.below HB.out)
  have HL := Lib.hid hL
  have HV := Lib.hid hv
  rw [← hL]
  clear h hL hv
  obtain ⟨b, hb⟩ : ∃ b, b = w.heap.size := ⟨_, rfl⟩
  go_enter Try.func55, Try.ntmps55
  go_upto_region 1 with fail
  rw [← hb] at HJ ⊢
  generalize w.alloc (.cells #[.slice A L c, .int .i64 wt] 24) = w1 at *
  clear hb
  obtain ⟨j0, j1, jl⟩ := HJ.out
  go_wp2_with fail
  go_loopw [3, 4] (fun mv iv wr => ∃ k : Nat, k ≤ L ∧ iv = .int .i64 (k : Int) ∧ mv = .int .i64 (tcI l k) ∧ Hid (wr = w1)) (fun _ iv _ => L - (intOf iv).toNat)
  case atStart => exact ⟨0, by omega, rfl, rfl, Lib.hid rfl⟩
  case round =>
    obtain ⟨k, hk, rfl, rfl, HW⟩ := hrel
    obtain rfl := HW.out
    by_cases hlt : k < L
    · have hkl : k < l.length := by rw [← HL.out]; exact hlt
      obtain ⟨aA, rfl, CE⟩ := H.out.at_ k hkl
      obtain ⟨c0, c1, c2, c3⟩ := CE.spelt
      replace c0 : wr.cell? (aA.add (k * 4)) = some (.int .i64 (trn l k)) := c0
      have hki : (k : Int) < (L : Int) := by omega
      have hb : 0 ≤ trn l k ∧ trn l k ≤ 15 := (HV.out _ (getD_memI hkl)).1
      have hN : tcI l (k + 1) = max2 (tcI l k) (trn l k + 1) := rfl
      have HN := Lib.hid hN
      clear CE hN c1 c2 c3
      generalize trn l k = tr at *
      obtain ⟨m2, hm2⟩ : ∃ m, m = max2 (tcI l k) (tr + 1) := ⟨_, rfl⟩
      obtain ⟨m0, hm0⟩ : ∃ m, m = tcI l k := ⟨_, rfl⟩
      rw [← hm0] at hm2 ⊢
      have hmx : ∀ w ts t, (Builtin.max_ ts t #[.int .i64 m0, .int .i64 (tr + 1)]).run Try.prog w = .ok (.int .i64 m2) w := fun w ts t => by rw [run_max2, hm2]
      have HN2 := Lib.hid (show m2 = tcI l (k + 1) by rw [hm2, hm0]; exact HN.out.symm)
      clear hm2 hm0 HN
      go_wp2_with fail
      go_roundw
      case rel => exact ⟨k + 1, by omega, by go_num, by rw [HN2.out], Lib.hid trivial⟩
      case measure => simp [intOf]; omega
    · obtain rfl : k = L := by omega
      go_wp2_with fail
      go_ret
      exact ⟨rfl, HB.out⟩
set_option maxRecDepth 100000 in
set_option maxHeartbeats 3200000 in
theorem rval14_any (l : List It) (A : Option Addr) (c L : Nat) (wt st : Int) (v : List Int) (pA : Option Addr) (n pc : Nat) (hL : L = l.length) (hn : n = v.length) (w : World) (h : IRow w A l) (hp : Row .i64 w w.heap.size pA v) (hm : v.length ≤ maxLen) :
    Calls Try.prog 38 #[jv A L c wt, pv st pA n pc] w fun e w' => e = .returned (.int .i64 (val14 l wt st v)) ∧ Below w.heap.size w w' := by
  have hnl : n ≤ 9223372036854775807 := by rw [hn]; exact hm
  obtain ⟨HJ0, HP0, HB0⟩ := pbox2 w A L c wt st pA n pc
  have HJ := Lib.hid HJ0
  have HP := Lib.hid HP0
  have HB := Lib.hid HB0
  have H := Lib.hid h
  have HR := Lib.hid hp
  have HL := Lib.hid hL
  have HN := Lib.hid hn
  have HV := Lib.hid (fun (W : World) (k : IRow W A l) => rvalid_any l A c wt W k)
  rw [← hL] at HV
  clear h hp HJ0 HP0 HB0 hm hL hn
  obtain ⟨b, hb⟩ : ∃ b, b = w.heap.size := ⟨_, rfl⟩
  go_enter Try.func38, Try.ntmps38
  go_upto_region 1 with fail
  rw [← hb] at HJ HP ⊢
  generalize (w.alloc (.cells #[.slice A L c, .int .i64 wt] 24)).alloc (.cells #[.int .i64 st, .slice pA n pc] 27) = w1 at *
  clear hb
  obtain ⟨j0, j1, jl⟩ := HJ.out
  obtain ⟨p0, p1, -, pl⟩ := HP.out
  go_wp2_with fail
  refine (HV.out w1 (H.out.below HB.out)).mono ?_
  rintro e w2 ⟨rfl, B2⟩
  have HJ := Lib.hid (HJ.out.below B2 HJ.out.lt)
  have HP := Lib.hid (HP.out.below B2 HP.out.lt)
  have HB := Lib.hid (HB.out.trans (B2.mono HB.out.size))
  have H := Lib.hid (H.out.below HB.out)
  have HR := Lib.hid (HR.out.below HB.out)
  clear j0 j1 p0 p1 jl pl B2 HV
  obtain ⟨j0, j1, jl⟩ := HJ.out
  obtain ⟨p0, p1, -, pl⟩ := HP.out
  by_cases hv : validR l wt = 0
  · rw [hv]
    have hl : L ≤ 96 := by rw [HL.out]; exact (valid_ok hv).1
    have HE1 := Lib.hid (show fitB l wt st v = false → val14 l wt st v = 1 from fun hf => by unfold val14; rw [if_pos hv, if_neg (by rw [hf]; exact Bool.false_ne_true)])
    have HE0 := Lib.hid (show fitB l wt st v = true → val14 l wt st v = 0 from fun hf => by unfold val14; rw [if_pos hv, if_pos hf])
    clear hv
    by_cases h0 : st < 0
    · have HF := Lib.hid (HE1.out (fitB_st (l := l) (wt := wt) (v := v) (show ¬ (0 ≤ st ∧ st ≤ 12) by omega)))
      go_wp2_with fail
      go_ret
      exact ⟨ret_int HF.out.symm, HB.out⟩
    by_cases h12 : 12 < st
    · have HF := Lib.hid (HE1.out (fitB_st (l := l) (wt := wt) (v := v) (show ¬ (0 ≤ st ∧ st ≤ 12) by omega)))
      go_wp2_with fail
      go_ret
      exact ⟨ret_int HF.out.symm, HB.out⟩
    by_cases hnL : n = L
    · subst hnL
      obtain ⟨S, rfl⟩ := Int.eq_ofNat_of_zero_le (show 0 ≤ st by omega)
      have hS : S ≤ 12 := by omega
      have hkk : ((n : Int) != (n : Int)) = false := by simp
      clear h0 h12 hnl
      have h0' : ¬ (S : Int) < 0 := by omega
      have h12' : ¬ (12 : Int) < (S : Int) := by omega
      go_wp2_with fail
      clear hkk h0' h12' j0 j1 jl p0 p1 pl
      go_loopw [6] (fun iv wr => ∃ k : Nat, k ≤ n ∧ iv = .int .i64 (k : Int) ∧ Hid (∀ x, x < k → okC l wt (S : Int) v x = true) ∧ Hid (∃ q, wr = w2.drewN q)) (fun iv _ => n - (intOf iv).toNat)
      case atStart => exact ⟨0, by omega, rfl, Lib.hid (fun x hx => absurd hx (Nat.not_lt_zero _)), Lib.hid ⟨0, rfl⟩⟩
      case round =>
        obtain ⟨k, hk, rfl, F, HW⟩ := hrel
        have BW := Lib.hid (show Below w2.heap.size w2 wr by obtain ⟨q, e⟩ := HW.out; rw [e]; exact ⟨rfl, rfl, rfl, Nat.le_refl _, fun _ _ => rfl⟩)
        have j0 := (BW.out.cell (p := ⟨b, 0, none⟩) HJ.out.lt).trans HJ.out.c0
        have j1 := (BW.out.cell (p := ⟨b, 1, none⟩) HJ.out.lt).trans HJ.out.c1
        have p0 := (BW.out.cell (p := ⟨b + 1, 0, none⟩) HP.out.lt).trans HP.out.c0
        have p1 := (BW.out.cell (p := ⟨b + 1, 1, none⟩) HP.out.lt).trans HP.out.c1
        by_cases hlt : k < n
        · have hkl : k < l.length := by rw [← HL.out]; exact hlt
          obtain ⟨pad, rfl, plt, cp⟩ := (HR.out.below BW.out) k (by rw [← HN.out]; exact hlt)
          obtain ⟨aA, rfl, CE⟩ := (H.out.below BW.out).at_ k hkl
          obtain ⟨-, -, r2, -⟩ := CE.spelt
          replace r2 : wr.cell? ⟨(aA.add (k * 4)).block, (aA.add (k * 4)).off + 2, none⟩ = some (.int .i64 (rnd l k)) := r2
          have hki : (k : Int) < (n : Int) := by omega
          have HRI := Lib.hid (fun q : Nat => ris_any (v.getD k 0) (rnd l k) wt (wr.drewN q))
          have HOK := Lib.hid (show okC l wt (S : Int) v k = (decide (v.getD k 0 < 2 ^ S) && isZ (v.getD k 0) (rnd l k) wt) from rfl)
          have hpw := powW hS
          have hp4 := pow_le4096 hS
          have hpe : ((2 : Int) ^ S) = ((2 ^ S : Nat) : Int) := by simp
          rw [hpe] at HOK
          clear hpe CE
          generalize v.getD k 0 = vk at *
          generalize rnd l k = rr at *
          obtain ⟨P, hP⟩ : ∃ P, P = 2 ^ S := ⟨_, rfl⟩
          rw [← hP] at hpw hp4 HOK
          clear hP
          by_cases hge : (P : Int) ≤ vk
          · have HF := Lib.hid (HE1.out (fitB_at (l := l) (wt := wt) (st := (S : Int)) (v := v) hkl (by rw [HOK.out, decide_eq_false (by omega)]; rfl)))
            have hgd : decide ((P : Int) ≤ vk) = true := decide_eq_true hge
            go_wp2_with fail
            go_quiet (fail)
            clear j0 j1 p0 p1 cp r2 hpw
            go_wp2_with fail
            go_ret
            exact ⟨ret_int HF.out.symm, by have := HB.out.trans (BW.out.mono HB.out.size); exact this.trans ⟨rfl, rfl, rfl, Nat.le_refl _, fun _ _ => rfl⟩⟩
          · have hgd : decide ((P : Int) ≤ vk) = false := decide_eq_false hge
            cases hz : isZ vk rr wt with
            | false =>
              rw [hz] at HRI HOK
              have HF := Lib.hid (HE1.out (fitB_at (l := l) (wt := wt) (st := (S : Int)) (v := v) hkl (by rw [HOK.out]; simp)))
              go_wp2_with fail
              go_quiet ((go_at_call 46; exact Calls.quiet_of (HRI.out _)))
              clear j0 j1 p0 p1 cp r2 hpw
              go_wp2_with fail
              go_ret
              exact ⟨ret_int HF.out.symm, by have := HB.out.trans (BW.out.mono HB.out.size); exact this.trans ⟨rfl, rfl, rfl, Nat.le_refl _, fun _ _ => rfl⟩⟩
            | true =>
              rw [hz] at HRI HOK
              have HF2 := Lib.hid (show ∀ x, x < k + 1 → okC l wt (S : Int) v x = true from fun x hx => by
                rcases Nat.lt_or_ge x k with g | g
                · exact F.out x g
                · obtain rfl : x = k := by omega
                  rw [HOK.out, decide_eq_true (by omega)]; rfl)
              go_wp2_with fail
              go_quiet ((go_at_call 46; exact Calls.quiet_of (HRI.out _)))
              clear j0 j1 p0 p1 cp r2 hpw
              go_wp2_with fail
              go_roundw
              case rel => exact ⟨k + 1, by omega, by go_num, HF2, Lib.hid (by obtain ⟨q, e⟩ := HW.out; exact ⟨q + nq, by rw [e, World.drewN_drewN]⟩)⟩
              case measure => simp [intOf]; omega
        · obtain rfl : k = n := by omega
          have HT := Lib.hid (HE0.out (show fitB l wt (S : Int) v = true from fitB_iff.2 ⟨by omega, by rw [← HN.out, HL.out], fun x hx => F.out x (by rw [HL.out]; exact hx)⟩))
          go_wp2_with fail
          go_ret
          exact ⟨ret_int HT.out.symm, HB.out.trans (BW.out.mono HB.out.size)⟩
    · have HF := Lib.hid (HE1.out (fitB_len (l := l) (wt := wt) (st := st) (v := v) (by rw [← HL.out, ← HN.out]; exact hnL)))
      have hkk : ((n : Int) != (L : Int)) = true := by simp; omega
      have hlL : L ≤ 9223372036854775807 := by omega
      go_wp2_with fail
      go_ret
      exact ⟨ret_int HF.out.symm, HB.out⟩
  · have HE := Lib.hid (show val14 l wt st v = validR l wt by unfold val14; rw [if_neg hv])
    have hne : (validR l wt != 0) = true := bne_iff_ne.2 hv
    generalize validR l wt = er at *
    clear hv
    go_wp2_with fail
    go_ret
    exact ⟨ret_int HE.out.symm, HB.out⟩
end Go.Proofs.Ytkopbnppjhdbgaa

namespace Go.Proofs.Ytkopbnppjhdbgaa
open Go.RowKit Go.Lib

/-- The blocks of F have stayed. -/
structure Kp (F : Nat → Prop) (w w' : World) : Prop where
  os : w'.os = w.os
  tape : w'.tape = w.tape
  output : w'.output = w.output
  size : w.heap.size ≤ w'.heap.size
  block : ∀ k, F k → w'.heap[k]? = w.heap[k]?
section
variable {F G : Nat → Prop} {w w' w'' : World}
theorem Kp.refl (F : Nat → Prop) (w : World) : Kp F w w := ⟨rfl, rfl, rfl, Nat.le_refl _, fun _ _ => rfl⟩
theorem Kp.trans (h : Kp F w w') (k : Kp F w' w'') : Kp F w w'' :=
  ⟨k.os.trans h.os, k.tape.trans h.tape, k.output.trans h.output, Nat.le_trans h.size k.size, fun i hi => (k.block i hi).trans (h.block i hi)⟩
theorem Kp.weak (h : Kp F w w') (k : ∀ i, G i → F i) : Kp G w w' := ⟨h.os, h.tape, h.output, h.size, fun i hi => h.block i (k i hi)⟩
theorem Kp.of_below {B : Nat} (h : Below B w w') (k : ∀ i, F i → i < B) : Kp F w w' := ⟨h.os, h.tape, h.output, h.size, fun i hi => h.block i (k i hi)⟩
theorem Kp.below {B : Nat} (h : Kp F w w') (k : ∀ i, i < B → F i) : Below B w w' := ⟨h.os, h.tape, h.output, h.size, fun i hi => h.block i (k i hi)⟩
theorem Kp.drewN (h : Kp F w w') (n : Nat) : Kp F w (w'.drewN n) := ⟨h.os, h.tape, h.output, h.size, h.block⟩
theorem Kp.setCell (h : Kp F w w') {p : Addr} (hp : ¬ F p.block) (u : Value) : Kp F w (w'.setCell p u) :=
  ⟨h.os, h.tape, h.output, by rw [World.size_setCell]; exact h.size, fun i hi => by
    rw [Below.heap_setCell _ _ _ _ (fun e => hp (by rw [← e]; exact hi))]; exact h.block i hi⟩
theorem Kp.cell (h : Kp F w w') {p : Addr} (hp : F p.block) : w'.cell? p = w.cell? p := World.cell?_of_block (w := w) (h.block p.block hp)
theorem Kp.frozen (h : Kp F w w') {p : Addr} (hp : F p.block) : w'.frozen? p = w.frozen? p := World.frozen?_of_block (w := w) (h.block p.block hp)
end
/-- Two lists of lists of the call's own that lie apart, and apart from the blocks of F. -/
structure Two (F : Nat → Prop) (w : World) (gs gt base : Nat) (st tr : List (List Nat)) : Prop where
  ex : ∃ vs vt, OL w gs base vs (st.map toZ) ∧ OL w gt base vt (tr.map toZ) ∧ (∀ (i j : Nat) u v, vs[i]? = some u → vt[j]? = some v → Apt u v) ∧
    (∀ k, F k → ∀ (i : Nat) u, vs[i]? = some u → u.ownBlock ≠ some k) ∧ (∀ k, F k → ∀ (i : Nat) u, vt[i]? = some u → u.ownBlock ≠ some k)
  ne : gs ≠ gt
  fs : ∀ k, F k → k < w.heap.size ∧ k ≠ gs ∧ k ≠ gt
section
variable {F : Nat → Prop} {w w' : World} {gs gt base : Nat} {st tr : List (List Nat)}
theorem Two.symm (h : Two F w gs gt base st tr) : Two F w gt gs base tr st := by
  obtain ⟨⟨vs, vt, h1, h2, h3, h4, h5⟩, h6, h7⟩ := h
  exact ⟨⟨vt, vs, h2, h1, fun i j u v hu hv => (h3 j i v u hv hu).symm, h5, h4⟩, Ne.symm h6, fun k hk => ⟨(h7 k hk).1, (h7 k hk).2.2, (h7 k hk).2.1⟩⟩
theorem Two.below (h : Two F w gs gt base st tr) (k : Below w.heap.size w w') : Two F w' gs gt base st tr := by
  obtain ⟨⟨vs, vt, h1, h2, h3, h4, h5⟩, h6, h7⟩ := h
  exact ⟨⟨vs, vt, h1.below k, h2.below k, h3, h4, h5⟩, h6, fun i hi => ⟨Nat.lt_of_lt_of_le (h7 i hi).1 k.size, (h7 i hi).2⟩⟩
theorem Two.drewN (h : Two F w gs gt base st tr) (n : Nat) : Two F (w.drewN n) gs gt base st tr := h.below ⟨rfl, rfl, rfl, Nat.le_refl _, fun _ _ => rfl⟩
theorem Two.weak {G : Nat → Prop} (h : Two F w gs gt base st tr) (k : ∀ i, G i → F i) : Two G w gs gt base st tr := by
  obtain ⟨⟨vs, vt, h1, h2, h3, h4, h5⟩, h6, h7⟩ := h
  exact ⟨⟨vs, vt, h1, h2, h3, fun i hi => h4 i (k i hi), fun i hi => h5 i (k i hi)⟩, h6, fun i hi => h7 i (k i hi)⟩
theorem Two.old {B : Nat} (h : Two F w gs gt base st tr) (hB : B ≤ base) (hs : B ≤ gs) (ht : B ≤ gt) : Two (fun k => F k ∨ k < B) w gs gt base st tr := by
  obtain ⟨⟨vs, vt, h1, h2, h3, h4, h5⟩, h6, h7⟩ := h
  have key : ∀ (g : Nat) us ts, OL w g base us ts → ∀ k, k < B → ∀ (i : Nat) u, us[i]? = some u → u.ownBlock ≠ some k := fun g us ts o k hk i u hu e => by
    have hil : i < ts.length := by rw [← o.len]; exact (List.getElem?_eq_some_iff.1 hu).1
    have := (own_block (o.own i u _ hu (List.getElem?_eq_getElem hil)) e).1
    omega
  refine ⟨⟨vs, vt, h1, h2, h3, fun k hk => ?_, fun k hk => ?_⟩, h6, fun k hk => ?_⟩
  · rcases hk with hk | hk
    · exact h4 k hk
    · exact key gs vs _ h1 k hk
  · rcases hk with hk | hk
    · exact h5 k hk
    · exact key gt vt _ h2 k hk
  · rcases hk with hk | hk
    · exact h7 k hk
    · exact ⟨Nat.lt_of_lt_of_le hk (Nat.le_trans hs (Nat.le_of_lt h1.lt)), by omega, by omega⟩
/-- A further block that none of the lists owns. -/
theorem Two.more (h : Two F w gs gt base st tr) {b : Nat} (hb : b < base) (hs : b ≠ gs) (ht : b ≠ gt) : Two (fun k => F k ∨ k = b) w gs gt base st tr := by
  obtain ⟨⟨vs, vt, h1, h2, h3, h4, h5⟩, h6, h7⟩ := h
  have key : ∀ (g : Nat) us ts, OL w g base us ts → ∀ (i : Nat) u, us[i]? = some u → u.ownBlock ≠ some b := fun g us ts o i u hu e => by
    have hil : i < ts.length := by rw [← o.len]; exact (List.getElem?_eq_some_iff.1 hu).1
    have := (own_block (o.own i u _ hu (List.getElem?_eq_getElem hil)) e).1
    omega
  refine ⟨⟨vs, vt, h1, h2, h3, fun k hk => ?_, fun k hk => ?_⟩, h6, fun k hk => ?_⟩
  · rcases hk with hk | rfl
    · exact h4 k hk
    · exact key gs vs _ h1
  · rcases hk with hk | rfl
    · exact h5 k hk
    · exact key gt vt _ h2
  · rcases hk with hk | rfl
    · exact h7 k hk
    · exact ⟨Nat.lt_of_lt_of_le hb h1.le, hs, ht⟩
/-- A block that came later. -/
theorem Two.fresh (h : Two F w gs gt base st tr) (k : Below w.heap.size w w') {b : Nat} (hb : w.heap.size ≤ b) (hl : b < w'.heap.size) : Two (fun k => F k ∨ k = b) w' gs gt base st tr := by
  obtain ⟨⟨vs, vt, h1, h2, h3, h4, h5⟩, h6, h7⟩ := h
  have key : ∀ (g : Nat) us ts, OL w g base us ts → ∀ (i : Nat) u, us[i]? = some u → u.ownBlock ≠ some b := fun g us ts o i u hu e => by
    have hil : i < ts.length := by rw [← o.len]; exact (List.getElem?_eq_some_iff.1 hu).1
    have := (own_block (o.own i u _ hu (List.getElem?_eq_getElem hil)) e).2
    omega
  refine ⟨⟨vs, vt, h1.below k, h2.below k, h3, fun j hj => ?_, fun j hj => ?_⟩, h6, fun j hj => ?_⟩
  · rcases hj with hj | rfl
    · exact h4 j hj
    · exact key gs vs _ h1
  · rcases hj with hj | rfl
    · exact h5 j hj
    · exact key gt vt _ h2
  · rcases hj with hj | rfl
    · exact ⟨Nat.lt_of_lt_of_le (h7 j hj).1 k.size, (h7 j hj).2⟩
    · have := h1.lt
      have := h2.lt
      omega
theorem Two.lts (h : Two F w gs gt base st tr) : gs < w.heap.size ∧ gs < base ∧ base ≤ w.heap.size := by
  obtain ⟨⟨vs, vt, h1, _⟩, _⟩ := h
  exact ⟨h1.lt, h1.gb, h1.le⟩
theorem Two.ltt (h : Two F w gs gt base st tr) : gt < w.heap.size ∧ gt < base := ⟨h.symm.lts.1, h.symm.lts.2.1⟩
theorem getD_ls {ls : List (List Nat)} {k : Nat} (h : k < ls.length) : (ls.map toZ)[k]? = some (toZ (ls.getD k [])) := by
  rw [List.getElem?_map, List.getElem?_eq_getElem h, List.getD_eq_getElem?_getD, List.getElem?_eq_getElem h]; rfl
theorem map_setZ (ls : List (List Nat)) (k : Nat) (p : List Nat) (x : Nat) : (ls.map toZ).set k (toZ p ++ [(x : Int)]) = (ls.set k (p ++ [x])).map toZ := by
  rw [List.map_set, toZ_app]; rfl
/-- What is read of list k of the first, and what an append to it leaves. -/
structure AtS (F : Nat → Prop) (w : World) (gs gt base : Nat) (st tr : List (List Nat)) (k : Nat) (v : Value) : Prop where
  cell : w.cell? ⟨gs, k, none⟩ = some v
  own : Own .i64 3 w base v (toZ (st.getD k []))
  app : ∀ (W : World), Below w.heap.size w W → ∀ (x : Nat) v' w', AppI base v (toZ (st.getD k [])) (x : Int) W v' w' →
    w'.cell? ⟨gs, k, none⟩ = some v ∧ w'.frozen? ⟨gs, k, none⟩ = false ∧ Two F (w'.setCell ⟨gs, k, none⟩ v') gs gt base (st.set k (st.getD k [] ++ [x])) tr ∧ Kp F w w' ∧ Kp F w (w'.setCell ⟨gs, k, none⟩ v')
theorem OL.other {g g2 : Nat} {vs us : List Value} {ts rs : List (List Int)} {k : Nat} {v v' : Value} {t : List Int} {y : Int} (h : OL w g base vs ts) (o : OL w g2 base us rs) (hne : g ≠ g2)
    (ap : ∀ (i j : Nat) u z, vs[i]? = some u → us[j]? = some z → Apt u z) (hv : vs[k]? = some v) (ht : ts[k]? = some t) (A : AppI base v t y w v' w') :
    OL (w'.setCell ⟨g, k, none⟩ v') g2 base us rs ∧ ∀ (i j : Nat) u z, (vs.set k v')[i]? = some u → us[j]? = some z → Apt u z := by
  obtain ⟨O', hg, g', c, rfl, hlt, hat⟩ := A
  have O := h.own k v t hv ht
  have hvb : ∀ j, v.ownBlock = some j → base ≤ j := fun j hj => (own_block O hj).1
  have hb : w'.heap[g2]? = some (.cells us.toArray 25 (0, 0)) := (hg.block g2 o.lt (fun e => by have := hvb g2 e.symm; have := o.gb; omega)).trans o.blk
  refine ⟨⟨?_, o.len, fun j u s hu hs => ?_, o.apt, o.gb, by rw [World.size_setCell]; exact Nat.le_trans o.le hg.size⟩, fun i j u z hu hz => ?_⟩
  · rw [Below.heap_setCell _ _ _ _ (Ne.symm hne)]; exact hb
  · have Oj := o.own j u s hu hs
    have k1 : Own .i64 3 w' base u s := Oj.kept hg (by
      cases hq : u.ownBlock with
      | none => exact Or.inl rfl
      | some q => exact Or.inr (fun e2 => ap k j v u hv hu q e2.symm hq))
    refine k1.kept (setCell_grown w' ⟨g, k, none⟩ _) ?_
    cases hq : u.ownBlock with
    | none => exact Or.inl rfl
    | some q => exact Or.inr (fun e2 => absurd (show q = g by simpa using e2) (by have h1 := (own_block Oj hq).1; have := h.gb; omega))
  · rw [List.getElem?_set] at hu
    by_cases e : k = i
    · rw [if_pos e, if_pos (List.getElem?_eq_some_iff.1 hv).1] at hu
      injection hu with hu
      subst hu
      intro b hb1 hb2
      have e1 : g' = b := by simpa [Value.ownBlock] using hb1
      subst e1
      rcases hat with e2 | e2
      · exact ap k j v z hv hz g' e2 hb2
      · have hjl : j < rs.length := by rw [← o.len]; exact (List.getElem?_eq_some_iff.1 hz).1
        have := (own_block (o.own j z _ hz (List.getElem?_eq_getElem hjl)) hb2).2
        omega
    · rw [if_neg e] at hu
      exact ap i j u z hu hz
theorem Two.at_ (h : Two F w gs gt base st tr) {k : Nat} (hk : k < st.length) : ∃ v, AtS F w gs gt base st tr k v := by
  obtain ⟨⟨vs, vt, h1, h2, h3, h4, h5⟩, h6, h7⟩ := h
  have hkv : k < vs.length := by rw [h1.len, List.length_map]; exact hk
  have hv := List.getElem?_eq_getElem hkv
  have ht := getD_ls hk
  refine ⟨_, h1.cell hv, h1.own k _ _ hv ht, fun W B x v' w' A => ?_⟩
  have o1 := h1.below B
  have o2 := h2.below B
  obtain ⟨a1, a2, a3⟩ := o1.app hv ht A
  obtain ⟨b1, b2⟩ := o1.other o2 h6 h3 hv ht A
  have hA := A
  obtain ⟨O', hg, g', c, rfl, hlt, hat⟩ := hA
  have nk : ∀ j, F j → j ≠ g' := fun j hj e => by
    subst e
    rcases hat with e2 | e2
    · exact h4 j hj k _ hv e2
    · have := (h7 j hj).1; have := B.size; omega
  have kp : Kp F w w' := ⟨hg.os.trans B.os, hg.tape.trans B.tape, hg.output.trans B.output, Nat.le_trans B.size hg.size, fun j hj => (hg.block j (Nat.lt_of_lt_of_le (h7 j hj).1 B.size) (fun e => h4 j hj k _ hv e.symm)).trans (B.block j (h7 j hj).1)⟩
  rw [map_setZ] at a3
  refine ⟨a1, a2, ⟨⟨_, vt, a3, b1, b2, fun j hj i u hu => ?_, h5⟩, h6, fun j hj => ⟨by rw [World.size_setCell]; exact Nat.lt_of_lt_of_le (h7 j hj).1 kp.size, (h7 j hj).2⟩⟩, kp, kp.setCell (fun e => (h7 gs e).2.1 rfl) _⟩
  rw [List.getElem?_set] at hu
  by_cases e : k = i
  · rw [if_pos e, if_pos hkv] at hu
    injection hu with hu
    subst hu
    intro e2
    exact nk j hj (by have : g' = j := by simpa [Value.ownBlock] using e2
                      exact this.symm)
  · rw [if_neg e] at hu
    exact h4 j hj i u hu
/-- List k of the first is put to nil, and what it had is the caller's. -/
theorem Two.cut (h : Two F w gs gt base st tr) {k : Nat} (hk : k < st.length) : ∃ v, w.cell? ⟨gs, k, none⟩ = some v ∧ w.frozen? ⟨gs, k, none⟩ = false ∧ Own .i64 3 w base v (toZ (st.getD k [])) ∧
    Two (fun j => F j ∨ v.ownBlock = some j) (w.setCell ⟨gs, k, none⟩ (.slice none 0 0)) gs gt base (st.set k []) tr ∧ Own .i64 3 (w.setCell ⟨gs, k, none⟩ (.slice none 0 0)) base v (toZ (st.getD k [])) ∧ Kp F w (w.setCell ⟨gs, k, none⟩ (.slice none 0 0)) := by
  obtain ⟨⟨vs, vt, h1, h2, h3, h4, h5⟩, h6, h7⟩ := h
  have hkv : k < vs.length := by rw [h1.len, List.length_map]; exact hk
  have hv := List.getElem?_eq_getElem hkv
  have ht := getD_ls hk
  obtain ⟨v, ev⟩ : ∃ v, v = vs[k] := ⟨_, rfl⟩
  rw [← ev] at hv
  have O := h1.own k v _ hv ht
  have gsn : ∀ (u : Value) zs, Own .i64 3 w base u zs → Own .i64 3 (w.setCell ⟨gs, k, none⟩ (.slice none 0 0)) base u zs := fun u zs o => o.kept (setCell_grown w ⟨gs, k, none⟩ _) (by
    cases hq : u.ownBlock with
    | none => exact Or.inl rfl
    | some q => exact Or.inr (fun e2 => absurd (show q = gs by simpa using e2) (by have := (own_block o hq).1; have := h1.gb; omega)))
  have o1 : OL (w.setCell ⟨gs, k, none⟩ (.slice none 0 0)) gs base (vs.set k (.slice none 0 0)) ((st.set k []).map toZ) := by
    refine ⟨?_, by simp [h1.len], fun j u s hu hs => ?_, fun i j u s hij hu hs => ?_, h1.gb, by rw [World.size_setCell]; exact h1.le⟩
    · rw [heap_setCell_same w gs k _ 25 _ h1.blk]; simp
    · rw [List.map_set] at hs
      rw [List.getElem?_set] at hu hs
      by_cases e : k = j
      · rw [if_pos e, if_pos hkv] at hu
        rw [if_pos e, if_pos (by rw [List.length_map]; exact hk)] at hs
        injection hu with hu
        injection hs with hs
        subst hu; subst hs
        exact Own.nil
      · rw [if_neg e] at hu hs
        exact gsn u s (h1.own j u s hu hs)
    · intro b hb1 hb2
      rw [List.getElem?_set] at hu hs
      by_cases e : k = i
      · rw [if_pos e, if_pos hkv] at hu
        injection hu with hu
        subst hu; cases hb1
      · rw [if_neg e] at hu
        by_cases e2 : k = j
        · rw [if_pos e2, if_pos hkv] at hs
          injection hs with hs
          subst hs; cases hb2
        · rw [if_neg e2] at hs
          exact h1.apt i j u s hij hu hs b hb1 hb2
  have o2 : OL (w.setCell ⟨gs, k, none⟩ (.slice none 0 0)) gt base vt (tr.map toZ) :=
    ⟨by rw [Below.heap_setCell _ _ _ _ (Ne.symm h6)]; exact h2.blk, h2.len, fun j u s hu hs => gsn u s (h2.own j u s hu hs), h2.apt, h2.gb, by rw [World.size_setCell]; exact h2.le⟩
  have sub : ∀ (i : Nat) u, (vs.set k (.slice none 0 0))[i]? = some u → u.ownBlock = none ∨ (i ≠ k ∧ vs[i]? = some u) := fun i u hu => by
    rw [List.getElem?_set] at hu
    by_cases e : k = i
    · rw [if_pos e, if_pos hkv] at hu
      injection hu with hu; subst hu; exact Or.inl rfl
    · rw [if_neg e] at hu; exact Or.inr ⟨Ne.symm e, hu⟩
  refine ⟨v, h1.cell hv, frozen_of_row w gs k _ 25 h1.blk, O, ⟨⟨_, vt, o1, o2, fun i j u z hu hz => ?_, fun j hj i u hu => ?_, fun j hj i u hu => ?_⟩, h6, fun j hj => ?_⟩, gsn _ _ O, (Kp.refl F w).setCell (fun e => (h7 gs e).2.1 rfl) _⟩
  · rcases sub i u hu with e | ⟨_, e⟩
    · intro b hb; rw [e] at hb; cases hb
    · exact h3 i j u z e hz
  · rcases sub i u hu with e | ⟨hik, e⟩
    · rw [e]; simp
    · rcases hj with hj | hj
      · exact h4 j hj i u e
      · exact h1.apt k i v u (Ne.symm hik) hv e j hj
  · rcases hj with hj | hj
    · exact h5 j hj i u hu
    · exact h3 k i v u hv hu j hj
  · rw [World.size_setCell]
    rcases hj with hj | hj
    · exact h7 j hj
    · have := own_block O hj
      have := h1.gb
      have := h2.gb
      omega
theorem Two.len (h : Two F w gs gt base st tr) {vs : Nat} : True := trivial
theorem Two.pps (h : Two F w gs gt base st tr) : PP w (some ⟨gs, 0, none⟩) (st.map toZ) := by
  obtain ⟨⟨vs, vt, h1, _⟩, _⟩ := h
  exact h1.pp
theorem Two.ppt (h : Two F w gs gt base st tr) : PP w (some ⟨gt, 0, none⟩) (tr.map toZ) := h.symm.pps
end
/-- An append in a region that draws. -/
theorem AnyT.appI {ops : Array Oper} {Q : Exit → Act → World → Prop} {S : World → Prop} {tl : Nat → Bool} {i : Nat} {o : Oper} {fuel : Nat} {listed : Array Bool} {a : Act} {W : World} {d : Option Tmp} (ho : ops[i]? = some o) (hgd : o.guard = none) (hd : o.dst = d) (s x : Operand)
    (hop : o.op = .call { callee := .builtin .append, args := #[s, x], argTypes := #[25, 25] }) (base : Nat) (v : Value) (zs : List Int) (hs : a.eval s = v) (O : Own .i64 3 W base v zs)
    (y : Int) (w0 : World) (hW : W = w0.alloc (.cells #[.int .i64 y] 3)) (z : Nat) (hz : w0.heap.size = z) (c : Nat) (hx : a.eval x = .slice (some ⟨z, 0, none⟩) 1 c)
    (hl : zs.length + 1 ≤ 1000000000) (hb : base ≤ W.heap.size)
    (h : ∀ v' w', AppI base v zs y W v' w' → (tl i = false → S w') ∧ AnyT Try.prog ops Q S tl fuel (listed.setIfInBounds i true) (a.put d v') w') :
    wpOp Try.prog ops Q i (fun a' w' => (tl i = false → S w') ∧ AnyT Try.prog ops Q S tl fuel (listed.setIfInBounds i true) a' w') a W :=
  AnyT.step ho (fun KK hK => by
    subst hd
    exact step_appI W hgd s x hop base v zs hs O y w0 hW z hz c hx hl hb (fun v' w' A => hK.out _ _ (h v' w' A).1 (h v' w' A).2))
/-- The operations from number n on. -/
def tlGe (n i : Nat) : Bool := decide (n ≤ i)
end Go.Proofs.Ytkopbnppjhdbgaa

namespace Go.Proofs.Ytkopbnppjhdbgaa
open Go.RowKit Go.Lib

/-- Codes, rounds and trains as numbers. -/
def cdN (v : List Int) (x : Nat) : Nat := (v.getD x 0).toNat
def rdN (l : List It) (x : Nat) : Nat := (rnd l x).toNat
def tnN (l : List It) (x : Nat) : Nat := (trn l x).toNat
theorem vwI_asc {r : Int} {l : List It} (h : vwI r l = 0) : (∀ y, y < l.length → r ≤ rnd l y) ∧ ∀ x y, x ≤ y → y < l.length → rnd l x ≤ rnd l y := by
  induction l generalizing r with
  | nil => exact ⟨fun y hy => absurd hy (Nat.not_lt_zero _), fun x y _ hy => absurd hy (Nat.not_lt_zero _)⟩
  | cons p l ih =>
    have e : (if okI p then (if p.2.2.1 < r then 12 else vwI p.2.2.1 l) else 2) = (0 : Int) := h
    by_cases ho : okI p
    · rw [if_pos ho] at e
      by_cases hr : p.2.2.1 < r
      · rw [if_pos hr] at e; omega
      · rw [if_neg hr] at e
        obtain ⟨i1, i2⟩ := ih e
        have f0 : rnd (p :: l) 0 = p.2.2.1 := rfl
        have fs : ∀ y, rnd (p :: l) (y + 1) = rnd l y := fun y => rfl
        refine ⟨fun y hy => ?_, fun x y hxy hy => ?_⟩
        · cases y with
          | zero => rw [f0]; omega
          | succ y => rw [fs]; have := i1 y (by simp at hy; omega); omega
        · cases y with
          | zero => obtain rfl : x = 0 := by omega
                    exact Int.le_refl _
          | succ y =>
            rw [fs]
            cases x with
            | zero => rw [f0]; exact i1 y (by simp at hy; omega)
            | succ x => rw [fs]; exact i2 x y (by omega) (by simp at hy; omega)
    · rw [if_neg ho] at e; omega
theorem rnd_asc {l : List It} {wt : Int} (h : validR l wt = 0) : ∀ x y, x ≤ y → y < l.length → rnd l x ≤ rnd l y := by
  have hw := (formOk_of h).wb
  have hl := (valid_ok h).1
  unfold validR at h
  rw [if_neg (by omega), if_pos (btw_iff.2 hw)] at h
  exact (vwI_asc h).2
/-- A plan that fits a valid job. -/
structure Pl (l : List It) (wt : Int) (S : Nat) (v : List Int) : Prop where
  val : validR l wt = 0
  fit : fitB l wt (S : Int) v = true
def tnT (l : List It) : Nat := (tcI l l.length).toNat
section
variable {l : List It} {wt : Int} {S : Nat} {v : List Int}
theorem Pl.s12 (h : Pl l wt S v) : S ≤ 12 := by have := (fitB_iff.1 h.fit).1; omega
theorem Pl.len (h : Pl l wt S v) : v.length = l.length := (fitB_iff.1 h.fit).2.1
theorem Pl.l96 (h : Pl l wt S v) : l.length ≤ 96 := (valid_ok h.val).1
theorem Pl.tn (h : Pl l wt S v) {x : Nat} (hx : x < l.length) : trn l x = (tnN l x : Int) ∧ tnN l x < tnT l := by
  have hb : 0 ≤ trn l x ∧ trn l x ≤ 15 := ((valid_ok h.val).2.1 _ (getD_memI hx)).1
  have h1 := (tcI_bd (valid_ok h.val).2.1 l.length (Nat.le_refl _)).2 x hx
  unfold tnN tnT; omega
theorem Pl.rd (h : Pl l wt S v) {x : Nat} (hx : x < l.length) : rnd l x = (rdN l x : Int) ∧ rdN l x ≤ 12 := by
  have := (formOk_of h.val).rb x hx
  unfold rdN; omega
theorem Pl.cd (h : Pl l wt S v) {x : Nat} (hx : x < l.length) : v.getD x 0 = (cdN v x : Int) ∧ cdN v x < 2 ^ S ∧ isC (rdN l x) wt.toNat (cdN v x) = true := by
  have h1 := (fitB_iff.1 h.fit).2.2 x hx
  unfold okC at h1
  rw [Bool.and_eq_true, decide_eq_true_eq] at h1
  obtain ⟨h2, h3⟩ := h1
  unfold isZ at h3
  simp only [Bool.and_eq_true] at h3
  obtain ⟨h4, h5, h6⟩ := h3
  have h7 := cdB_iff.1 h5
  have e : v.getD x 0 = (cdN v x : Int) := by unfold cdN; omega
  refine ⟨e, ?_, h6⟩
  have h8 : ((cdN v x : Nat) : Int) < ((2 ^ S : Nat) : Int) := by
    rw [← e]
    have h9 : (2 : Int) ^ ((S : Int)).toNat = ((2 ^ S : Nat) : Int) := by simp
    omega
  omega
theorem Pl.fitN (h : Pl l wt S v) : FitN S l.length (tnT l) (cdN v) (rdN l) (tnN l) :=
  ⟨fun x hx => (h.cd hx).2.1, fun x hx => (isC_iff.1 (h.cd hx).2.2).2.1, fun x y hxy hy => by
    have h1 := rnd_asc h.val x y hxy hy
    have h2 := (h.rd (x := x) (by omega)).1
    have h3 := (h.rd hy).1
    omega, fun x hx => (h.tn hx).2⟩
theorem Pl.real (h : Pl l wt S v) {x : Nat} (hx : x < l.length) : realL (v.getD x 0) (rnd l x) = blN (cdN v x) (rdN l x) 12 ∧ realE (v.getD x 0) (rnd l x) = 0 := by
  obtain ⟨h1, h2, h3⟩ := h.cd hx
  obtain ⟨h4, h5⟩ := h.rd hx
  obtain ⟨h6, h7, -⟩ := isC_iff.1 h3
  rw [h1, h4]
  exact real_yes h5 h6 (beq_iff_eq.2 h7)
end
/-- The real bits as numbers: in ascending order, each one of them. -/
def blM (K R : Nat) : Nat → List Nat
  | 0 => []
  | b + 1 => if R ≤ b ∧ K / 2 ^ b % 2 = 1 then blM K R b ++ [b] else blM K R b
theorem blN_toZ (K R : Nat) : ∀ b, blN K R b = toZ (blM K R b) := by
  intro b
  induction b with
  | zero => rfl
  | succ b ih =>
    unfold blN blM
    by_cases g : R ≤ b ∧ K / 2 ^ b % 2 = 1
    · rw [if_pos g, if_pos g, toZ_app, ih]; rfl
    · rw [if_neg g, if_neg g, ih]
theorem blM_mem {K R : Nat} : ∀ b x, x ∈ blM K R b ↔ R ≤ x ∧ x < b ∧ bitN K x = true := by
  intro b
  induction b with
  | zero => intro x; simp [blM]
  | succ b ih =>
    intro x
    unfold blM
    by_cases g : R ≤ b ∧ K / 2 ^ b % 2 = 1
    · rw [if_pos g, List.mem_append, ih, List.mem_singleton]
      have hb : bitN K b = true := by unfold bitN; rw [g.2]; rfl
      constructor
      · rintro (⟨h1, h2, h3⟩ | rfl)
        · exact ⟨h1, by omega, h3⟩
        · exact ⟨g.1, by omega, hb⟩
      · rintro ⟨h1, h2, h3⟩
        by_cases e : x = b
        · exact Or.inr e
        · exact Or.inl ⟨h1, by omega, h3⟩
    · rw [if_neg g, ih]
      constructor
      · rintro ⟨h1, h2, h3⟩; exact ⟨h1, by omega, h3⟩
      · rintro ⟨h1, h2, h3⟩
        refine ⟨h1, ?_, h3⟩
        rcases Nat.lt_or_ge x b with k | k
        · exact k
        · obtain rfl : x = b := by omega
          exact absurd ⟨h1, by unfold bitN at h3; exact beq_iff_eq.1 h3⟩ g
theorem blM_asc {K R : Nat} : ∀ b, (blM K R b).Pairwise (fun x y => x < y) := by
  intro b
  induction b with
  | zero => exact List.Pairwise.nil
  | succ b ih =>
    unfold blM
    by_cases g : R ≤ b ∧ K / 2 ^ b % 2 = 1
    · rw [if_pos g]
      refine List.pairwise_append.2 ⟨ih, List.pairwise_singleton _ _, fun x hx y hy => ?_⟩
      rw [List.mem_singleton] at hy
      have := ((blM_mem b x).1 hx).2.1
      omega
    · rw [if_neg g]; exact ih
/-- A code below 2^S has no bits from S on. -/
theorem bit_high {K S b : Nat} (h : K < 2 ^ S) (hb : S ≤ b) : bitN K b = false := by
  have h1 : 2 ^ S ≤ 2 ^ b := Nat.pow_le_pow_right (by decide) hb
  unfold bitN
  rw [Nat.div_eq_of_lt (by omega)]; rfl
/-- The first of the real bits that is at least t. -/
theorem dst_first {S K R t i : Nat} (hS : S ≤ 12) (hK : K < 2 ^ S) (hR : R ≤ t) (ht : t ≤ S) (hi : i < (blM K R 12).length) (h1 : t ≤ (blM K R 12).getD i 0) (h2 : ∀ j, j < i → (blM K R 12).getD j 0 < t) :
    dst S K t = (blM K R 12).getD i 0 ∧ (blM K R 12).getD i 0 < S := by
  obtain ⟨m1, m2, m3⟩ := (blM_mem 12 _).1 (getD_memN hi)
  have hlt : (blM K R 12).getD i 0 < S := by
    rcases Nat.lt_or_ge ((blM K R 12).getD i 0) S with g | g
    · exact g
    · rw [bit_high hK g] at m3; cases m3
  refine ⟨dst_uniq ht h1 (by omega) (fun _ => m3) (fun b hb1 hb2 => ?_), hlt⟩
  cases hb : bitN K b with
  | false => rfl
  | true =>
    exfalso
    have hm : b ∈ blM K R 12 := (blM_mem 12 b).2 ⟨by omega, by omega, hb⟩
    obtain ⟨j, hj, e⟩ := List.getElem_of_mem hm
    have e' : (blM K R 12).getD j 0 = b := by rw [List.getD_eq_getElem?_getD, List.getElem?_eq_getElem hj]; exact e
    rcases Nat.lt_or_ge j i with g | g
    · have := h2 j g; omega
    · rcases Nat.eq_or_lt_of_le g with g | g
      · subst g; omega
      · have h3 := List.pairwise_iff_getElem.1 (blM_asc (K := K) (R := R) 12) i j hi hj g
        have e2 : (blM K R 12).getD i 0 = (blM K R 12)[i] := by rw [List.getD_eq_getElem?_getD, List.getElem?_eq_getElem hi]; rfl
        rw [e, ← e2] at h3
        omega
theorem dst_last {S K R t : Nat} (hS : S ≤ 12) (hR : R ≤ t) (ht : t ≤ S) (h2 : ∀ j, j < (blM K R 12).length → (blM K R 12).getD j 0 < t) : dst S K t = S := by
  refine dst_uniq ht (by omega) (Nat.le_refl _) (fun h => absurd h (Nat.lt_irrefl _)) (fun b hb1 hb2 => ?_)
  cases hb : bitN K b with
  | false => rfl
  | true =>
    exfalso
    have hm : b ∈ blM K R 12 := (blM_mem 12 b).2 ⟨by omega, by omega, hb⟩
    obtain ⟨j, hj, e⟩ := List.getElem_of_mem hm
    have e' : (blM K R 12).getD j 0 = b := by rw [List.getD_eq_getElem?_getD, List.getElem?_eq_getElem hj]; exact e
    have := h2 j hj
    omega
/-- The program's realBits. -/
theorem realBits_any (k r : Int) (w : World) : Calls Try.prog 35 #[.int .i64 k, .int .i64 r] w fun e w' => ∃ v, e = .returned v ∧ Own .i64 3 w' w.heap.size v (realL k r) ∧ Below w.heap.size w w' := by
  have HR := Lib.hid (real_any k r w)
  go_enter Try.func35, Try.ntmps35
  go_wp2_with fail
  refine HR.out.mono ?_
  rintro e w1 ⟨v, rfl, O, B⟩
  obtain ⟨A, c, ev, -⟩ := O.slice
  have HO := Lib.hid O
  have HB := Lib.hid B
  clear O B HR
  obtain ⟨n, hn⟩ : ∃ n, n = (realL k r).length := ⟨_, rfl⟩
  rw [← hn] at ev
  subst ev
  clear hn
  go_wp2_with fail
  go_ret
  exact ⟨_, rfl, HO.out, HB.out⟩
/-- The box of the program's machine. -/
structure MB (w : World) (b : Nat) (A : Option Addr) (L c : Nat) (pA : Option Addr) (n pc gs S gt T : Nat) (mv pu : Int) : Prop where
  c0 : w.cell? ⟨b, 0, none⟩ = some (.slice A L c)
  c1 : w.cell? ⟨b, 1, none⟩ = some (.slice pA n pc)
  c2 : w.cell? ⟨b, 2, none⟩ = some (.slice (some ⟨gs, 0, none⟩) S S)
  c3 : w.cell? ⟨b, 3, none⟩ = some (.slice (some ⟨gt, 0, none⟩) T T)
  c4 : w.cell? ⟨b, 4, none⟩ = some (.int .i64 mv)
  c5 : w.cell? ⟨b, 5, none⟩ = some (.int .i64 pu)
  f : ∀ j, w.frozen? ⟨b, j, none⟩ = false
  lt : b < w.heap.size
theorem MB.kp {F : Nat → Prop} {w w' : World} {b : Nat} {A : Option Addr} {L c : Nat} {pA : Option Addr} {n pc gs S gt T : Nat} {mv pu : Int} (h : MB w b A L c pA n pc gs S gt T mv pu) (k : Kp F w w') (hb : F b) : MB w' b A L c pA n pc gs S gt T mv pu :=
  ⟨(k.cell (p := ⟨b, 0, none⟩) hb).trans h.c0, (k.cell (p := ⟨b, 1, none⟩) hb).trans h.c1, (k.cell (p := ⟨b, 2, none⟩) hb).trans h.c2, (k.cell (p := ⟨b, 3, none⟩) hb).trans h.c3, (k.cell (p := ⟨b, 4, none⟩) hb).trans h.c4, (k.cell (p := ⟨b, 5, none⟩) hb).trans h.c5, fun j => (k.frozen (p := ⟨b, j, none⟩) hb).trans (h.f j), Nat.lt_of_lt_of_le h.lt k.size⟩
theorem MB.below {w w' : World} {b B : Nat} {A : Option Addr} {L c : Nat} {pA : Option Addr} {n pc gs S gt T : Nat} {mv pu : Int} (h : MB w b A L c pA n pc gs S gt T mv pu) (k : Below B w w') (hb : b < B) : MB w' b A L c pA n pc gs S gt T mv pu :=
  h.kp (Kp.of_below (F := fun i => i = b) k (fun i e => by omega)) rfl
set_option maxRecDepth 100000 in
set_option maxHeartbeats 3200000 in
theorem put_any (F : Nat → Prop) (l : List It) (wt : Int) (S : Nat) (v : List Int) (hpl : Pl l wt S v) (A : Option Addr) (c L : Nat) (hL : L = l.length) (pA : Option Addr) (n pc gs gt T base b x t M : Nat) (mv pu : Int) (st tr : List (List Nat)) (w : World)
    (h : IRow w A l) (hp : Row .i64 w w.heap.size pA v) (hn : n = v.length) (HM : MB w b A L c pA n pc gs S gt T mv pu) (HT : Two F w gs gt base st tr) (hFb : F b) (hst : st.length = S) (htr : tr.length = T) (hT : T = tnT l)
    (hx : x < l.length) (hrt : rdN l x ≤ t) (htS : t ≤ S) (hM : M ≤ 1000000) (hb1 : ∀ k, (st.getD k []).length ≤ M) (hb2 : ∀ k, (tr.getD k []).length ≤ M) :
    Calls Try.prog 66 #[.pointer (some ⟨b, 0, none⟩), .int .i64 (x : Int), .int .i64 (t : Int)] w fun e w' => e = .returned (.tuple #[]) ∧ Two F w' gs gt base (putS S (cdN v) t st x) (putT S (cdN v) (tnN l) t tr x) ∧ Kp F w w' := by
  have hS := hpl.s12
  have hL96 : L ≤ 96 := by rw [hL]; exact hpl.l96
  have hT16 : T ≤ 16 := by
    have := (tcI_bd (valid_ok hpl.val).2.1 l.length (Nat.le_refl _)).1
    rw [hT]; unfold tnT; omega
  obtain ⟨aA, rfl, CE⟩ := h.at_ x hx
  obtain ⟨c0, c1, c2, c3⟩ := CE.spelt
  obtain ⟨pad, rfl, plt, cp⟩ := hp x (by rw [hpl.len]; exact hx)
  have hxL : (x : Int) < (L : Int) := by omega
  have hxn : (x : Int) < (n : Int) := by rw [hn, hpl.len]; omega
  have HCE := Lib.hid CE
  obtain ⟨⟨tv, bv, rv, lv⟩, hp4⟩ : ∃ p, p = l.getD x it0 := ⟨_, rfl⟩
  rw [← hp4] at c0 c1 c2 c3 CE
  have hrv : rnd l x = rv := by unfold rnd; rw [← hp4]
  have htv : trn l x = tv := by unfold trn; rw [← hp4]
  have HREAL := Lib.hid (hpl.real hx)
  have HRV := Lib.hid hrv
  have HTV := Lib.hid (show tv = (tnN l x : Int) by rw [← htv]; exact (hpl.tn hx).1)
  have HTN := Lib.hid (hpl.tn hx).2
  have HCD := Lib.hid (hpl.cd hx)
  have P0 := IPl.new (w := w) (p := (tv, bv, rv, lv)) (T := 29) w.heap.size rfl
  have BX := (Below.refl w.heap.size w).alloc (Nat.le_refl _) (.cells #[.int .i64 tv, .int .i64 bv, .int .i64 rv, .int .i64 lv] 29)
  have HM1 := Lib.hid (HM.below BX HM.lt)
  have HT1 := Lib.hid (HT.fresh BX (b := w.heap.size) (Nat.le_refl _) (by simp))
  have HP1 := Lib.hid P0
  have HK1 := Lib.hid (Kp.of_below (F := F) BX (fun i hi => (HT.fs i hi).1))
  have hcd1 := (BX.cell (p := pad.add x) (by rw [add_block]; exact plt)).trans cp
  have HFB := Lib.hid hFb
  have HX := Lib.hid hx
  have HPL := Lib.hid hpl
  have HTT := Lib.hid hT
  have HMB := Lib.hid hb1
  have HMB2 := Lib.hid hb2
  have HSL := Lib.hid hst
  have HTL := Lib.hid htr
  have HRT := Lib.hid hrt
  obtain ⟨m0, m1, m2, m3, m4, m5, mf, mlt⟩ := HM
  obtain ⟨ib, hib⟩ : ∃ i, i = w.heap.size := ⟨_, rfl⟩
  obtain ⟨vx, hvx⟩ : ∃ vx, vx = v.getD x 0 := ⟨_, rfl⟩
  rw [← hvx] at hcd1 HREAL cp
  rw [HRV.out] at HREAL
  clear h hp hp4 hrv htv HT hFb hx CE HCE hL hn hT hb1 hb2 BX P0 hst htr hrt mf hvx
  go_enter Try.func66, Try.ntmps66
  go_upto_region 1 with fail
  clear m0 m1 m2 m3 m4 m5 mlt c0 c1 c2 c3 cp
  rw [← hib] at HP1 HT1 ⊢
  have HKP := Lib.hid (fun (W : World) (k : Kp F (w.alloc (.cells #[.int .i64 tv, .int .i64 bv, .int .i64 rv, .int .i64 lv] 29)) W) => HK1.out.trans k)
  generalize w.alloc (.cells #[.int .i64 tv, .int .i64 bv, .int .i64 rv, .int .i64 lv] 29) = w1 at *
  clear hib HK1
  obtain ⟨q0, e0⟩ : ∃ q, q = w1.drew := ⟨_, rfl⟩
  have F0 : q0.cell? ⟨b, 1, none⟩ = some (.slice (some pad) n pc) ∧ q0.cell? (pad.add x) = some (.int .i64 vx) ∧ q0.cell? ⟨ib, 2, none⟩ = some (.int .i64 rv) := by
    rw [e0]; exact ⟨HM1.out.c1, hcd1, HP1.out.c2⟩
  have B0 := Lib.hid (show Below w1.heap.size w1 q0 by rw [e0]; exact ⟨rfl, rfl, rfl, Nat.le_refl _, fun _ _ => rfl⟩)
  have HPX := Lib.hid (show ∀ W, Below w1.heap.size w1 W → W.cell? ⟨b, 1, none⟩ = some (.slice (some pad) n pc) ∧ W.cell? (pad.add x) = some (.int .i64 vx) ∧ W.cell? ⟨ib, 2, none⟩ = some (.int .i64 rv) from fun W k =>
    ⟨(k.cell (p := ⟨b, 1, none⟩) HM1.out.lt).trans HM1.out.c1, (k.cell (p := pad.add x) (lt_of_cell hcd1)).trans hcd1, (k.cell (p := ⟨ib, 2, none⟩) HP1.out.lt).trans HP1.out.c2⟩)
  have HE0 := Lib.hid e0
  clear e0 hcd1
  refine AnyT.begin_at tlN (fun X => X.cell? ⟨b, 1, none⟩ = some (.slice (some pad) n pc) ∧ X.cell? (pad.add x) = some (.int .i64 vx) ∧ X.cell? ⟨ib, 2, none⟩ = some (.int .i64 rv)) (by kernel_rfl) HE0.out F0 ?_
  clear F0
  intro F0
-- TAKES A1
  refine AnyT.takeD (i := 0) (d := some 16) (v := .pointer (some ⟨b, 0, none⟩)) rfl rfl (by kernel_rfl) (by kernel_rfl) (by kernel_rfl) (by kernel_rfl) (fun _ _ _ h => h) (Or.inl ⟨by rfl, fun wz _ => by go_simp⟩) F0 ?_
  simp only [Act.put, List.setIfInBounds_toArray, List.set_cons_zero, List.set_cons_succ]
  refine AnyT.takeD (i := 1) (d := some 17) (v := .pointer (some ⟨b, 0, none⟩)) rfl rfl (by kernel_rfl) (by kernel_rfl) (by kernel_rfl) (by kernel_rfl) (fun _ _ _ h => h) (Or.inl ⟨by rfl, fun wz _ => by go_simp⟩) F0 ?_
  simp only [Act.put, List.setIfInBounds_toArray, List.set_cons_zero, List.set_cons_succ]
  refine AnyT.takeD (i := 2) (d := some 18) (v := .pointer (some ⟨b, 1, none⟩)) rfl rfl (by kernel_rfl) (by kernel_rfl) (by kernel_rfl) (by kernel_rfl) (fun _ _ _ h => h) (Or.inl ⟨by rfl, fun wz _ => by go_simp⟩) F0 ?_
  simp only [Act.put, List.setIfInBounds_toArray, List.set_cons_zero, List.set_cons_succ]
  refine AnyT.takeD (i := 3) (d := some 19) (v := .slice (some pad) n pc) rfl rfl (by kernel_rfl) (by kernel_rfl) (by kernel_rfl) (by kernel_rfl) (fun _ _ _ h => h) (Or.inl ⟨by rfl, fun wz hz => by obtain ⟨z0, z1, z2⟩ := hz; go_simp⟩) F0 ?_
  simp only [Act.put, List.setIfInBounds_toArray, List.set_cons_zero, List.set_cons_succ]
  refine AnyT.takeD (i := 4) (d := some 20) (v := .int .i64 (x : Int)) rfl rfl (by kernel_rfl) (by kernel_rfl) (by kernel_rfl) (by kernel_rfl) (fun _ _ _ h => h) (Or.inl ⟨by rfl, fun wz _ => by go_simp⟩) F0 ?_
  simp only [Act.put, List.setIfInBounds_toArray, List.set_cons_zero, List.set_cons_succ]
  refine AnyT.takeD (i := 5) (d := some 21) (v := .pointer (some (pad.add x))) rfl rfl (by kernel_rfl) (by kernel_rfl) (by kernel_rfl) (by kernel_rfl) (fun _ _ _ h => h) (Or.inl ⟨by rfl, fun wz _ => by go_simp⟩) F0 ?_
  simp only [Act.put, List.setIfInBounds_toArray, List.set_cons_zero, List.set_cons_succ]
  refine AnyT.takeD (i := 6) (d := some 22) (v := .int .i64 vx) rfl rfl (by kernel_rfl) (by kernel_rfl) (by kernel_rfl) (by kernel_rfl) (fun _ _ _ h => h) (Or.inl ⟨by rfl, fun wz hz => by obtain ⟨z0, z1, z2⟩ := hz; go_simp⟩) F0 ?_
  simp only [Act.put, List.setIfInBounds_toArray, List.set_cons_zero, List.set_cons_succ]
  refine AnyT.takeD (i := 7) (d := some 23) (v := .pointer (some ⟨ib, 2, none⟩)) rfl rfl (by kernel_rfl) (by kernel_rfl) (by kernel_rfl) (by kernel_rfl) (fun _ _ _ h => h) (Or.inl ⟨by rfl, fun wz _ => by go_simp⟩) F0 ?_
  simp only [Act.put, List.setIfInBounds_toArray, List.set_cons_zero, List.set_cons_succ]
  refine AnyT.takeD (i := 8) (d := some 24) (v := .int .i64 rv) rfl rfl (by kernel_rfl) (by kernel_rfl) (by kernel_rfl) (by kernel_rfl) (fun _ _ _ h => h) (Or.inl ⟨by rfl, fun wz hz => by obtain ⟨z0, z1, z2⟩ := hz; go_simp⟩) F0 ?_
  simp only [Act.put, List.setIfInBounds_toArray, List.set_cons_zero, List.set_cons_succ]
  refine AnyT.takeD (i := 11) (d := some 27) (v := .int .i64 0) rfl rfl (by kernel_rfl) (by kernel_rfl) (by kernel_rfl) (by kernel_rfl) (fun _ _ _ h => h) (Or.inl ⟨by rfl, fun wz _ => by go_simp⟩) F0 ?_
  simp only [Act.put, List.setIfInBounds_toArray, List.set_cons_zero, List.set_cons_succ]
  -- TAKEN A1
  refine AnyT.branch (rs := [9]) (by kernel_rfl) (by simp) ?_
  refine all_cons (?_) all_nil
  refine AnyT.enter (i := 9) (d := some 25) (f := 35) (args := #[.int .i64 vx, .int .i64 rv]) rfl rfl rfl (by go_simp) (realBits_any vx rv q0) ?_
  rintro e q1 ⟨zv, rfl, OZ, BZ⟩
  rw [HREAL.out.1, blN_toZ] at OZ
  have B1 := Lib.hid (B0.out.trans (BZ.mono B0.out.size))
  have F1 := HPX.out q1 B1.out
  refine ⟨_, rfl, fun _ => F1, ?_⟩
  obtain ⟨zA, zc, ez, ZR, -, -, -⟩ := OZ.slice
  obtain ⟨Z, hZ⟩ : ∃ Z, Z = blM (cdN v x) (rdN l x) 12 := ⟨_, rfl⟩
  rw [← hZ] at ez ZR
  obtain ⟨zn, hzn⟩ : ∃ zn, zn = (toZ Z).length := ⟨_, rfl⟩
  rw [← hzn] at ez
  subst ez
  have HZ := Lib.hid hZ
  have HZN := Lib.hid (show zn = Z.length by rw [hzn, toZ_len])
  have hzn12 : zn ≤ 12 := by
    have := blN_len (cdN v x) (rdN l x) 12
    rw [blN_toZ, toZ_len, ← hZ, ← HZN.out] at this
    exact this
  have HZR := Lib.hid ZR
  clear F0 OZ ZR BZ hZ hzn
  simp only [Act.put, List.setIfInBounds_toArray, List.set_cons_zero, List.set_cons_succ]
-- TAKES A2
  refine AnyT.takeD (i := 10) (d := some 26) (v := .int .i64 (zn : Int)) rfl rfl (by kernel_rfl) (by kernel_rfl) (by kernel_rfl) (by kernel_rfl) (fun _ _ _ h => h) (Or.inl ⟨by rfl, fun wz _ => by go_simp⟩) F1 ?_
  simp only [Act.put, List.setIfInBounds_toArray, List.set_cons_zero, List.set_cons_succ]
  -- TAKEN A2
  refine AnyT.done_ (by kernel_rfl) ?_ _
  have HM2 := Lib.hid (HM1.out.below B1.out HM1.out.lt)
  have HT2 := Lib.hid (HT1.out.below B1.out)
  have HP2 := Lib.hid (HP1.out.below B1.out)
  have HK2 := Lib.hid (HKP.out q1 (Kp.of_below (F := F) B1.out (fun i hi => (HT1.out.fs i (Or.inl hi)).1)))
  clear F1 HM1 HT1 HP1 HKP B0 B1 HPX HE0 HREAL HRV
  go_wp2_with fail
  go_loopw [27] (fun iv wr => ∃ i : Nat, i ≤ zn ∧ iv = .int .i64 (i : Int) ∧ Hid (∀ j, j < i → Z.getD j 0 < t) ∧ Hid (wr = q1)) (fun iv _ => zn - (intOf iv).toNat)
  case atStart => exact ⟨0, by omega, rfl, Lib.hid (fun j hj => absurd hj (Nat.not_lt_zero _)), Lib.hid rfl⟩
  case round =>
    obtain ⟨i, hi, rfl, FI, HW⟩ := hrel
    have hw := HW.out
    subst hw
    by_cases hlt : i < zn
    · obtain ⟨zad, rfl, zlt, zc1⟩ := HZR.out i (by rw [toZ_len, ← HZN.out]; exact hlt)
      rw [toZ_at Z (by rw [← HZN.out]; exact hlt)] at zc1
      have HZI := Lib.hid (show i < Z.length by rw [← HZN.out]; exact hlt)
      obtain ⟨B, hB⟩ : ∃ B, B = Z.getD i 0 := ⟨_, rfl⟩
      rw [← hB] at zc1
      have HBQ := Lib.hid hB
      clear hB
      have hii : (i : Int) < (zn : Int) := by omega
      by_cases hge : t ≤ B
      · have HD := Lib.hid (show dst S (cdN v x) t = B ∧ B < S by
          rw [HBQ.out, HZ.out]
          rw [HZ.out] at HZI FI HBQ
          exact dst_first hS HCD.out.2.1 HRT.out htS HZI.out (by rw [← HBQ.out]; exact hge) FI.out)
        have hgi : (t : Int) ≤ (B : Int) := by omega
        have hBS := HD.out.2
        have hBi : (B : Int) < (S : Int) := by omega
        obtain ⟨vv, HAT⟩ := HT2.out.at_ (k := B) (by rw [HSL.out]; exact hBS)
        obtain ⟨rA, rc, ev, -, -, -, -⟩ := HAT.own.slice
        obtain ⟨rn, hrn⟩ : ∃ rn, rn = (toZ (st.getD B [])).length := ⟨_, rfl⟩
        rw [← hrn] at ev
        subst ev
        have HRN := Lib.hid hrn
        have HA := Lib.hid HAT
        have HML := Lib.hid (show (toZ (st.getD B [])).length + 1 ≤ 1000000000 by rw [toZ_len]; have := HMB.out B; omega)
        clear hrn HAT hBS
        go_upto_region 5 with fail
        clear zc1
        obtain ⟨q0, e0⟩ : ∃ q, q = wr.drew := ⟨_, rfl⟩
        have HQ0 := Lib.hid (show Below wr.heap.size wr q0 by rw [e0]; exact ⟨rfl, rfl, rfl, Nat.le_refl _, fun _ _ => rfl⟩)
        have F0 : q0.cell? ⟨b, 2, none⟩ = some (.slice (some ⟨gs, 0, none⟩) S S) ∧ q0.cell? ⟨gs, B, none⟩ = some (.slice rA rn rc) := by
          rw [e0]; exact ⟨HM2.out.c2, HA.out.cell⟩
        have HE0 := Lib.hid e0
        clear e0
        refine AnyT.begin_at (tlGe 16) (fun X => X.cell? ⟨b, 2, none⟩ = some (.slice (some ⟨gs, 0, none⟩) S S) ∧ X.cell? ⟨gs, B, none⟩ = some (.slice rA rn rc)) (by kernel_rfl) HE0.out F0 ?_
        clear F0
        intro F0
-- TAKES B1
        refine AnyT.takeD (i := 0) (d := some 34) (v := .pointer (some ⟨b, 0, none⟩)) rfl rfl (by kernel_rfl) (by kernel_rfl) (by kernel_rfl) (by kernel_rfl) (fun _ _ _ h => h) (Or.inl ⟨by rfl, fun wz _ => by go_simp⟩) F0 ?_
        simp only [Act.put, List.setIfInBounds_toArray, List.set_cons_zero, List.set_cons_succ]
        refine AnyT.takeD (i := 1) (d := some 35) (v := .pointer (some ⟨b, 0, none⟩)) rfl rfl (by kernel_rfl) (by kernel_rfl) (by kernel_rfl) (by kernel_rfl) (fun _ _ _ h => h) (Or.inl ⟨by rfl, fun wz _ => by go_simp⟩) F0 ?_
        simp only [Act.put, List.setIfInBounds_toArray, List.set_cons_zero, List.set_cons_succ]
        refine AnyT.takeD (i := 2) (d := some 36) (v := .pointer (some ⟨b, 2, none⟩)) rfl rfl (by kernel_rfl) (by kernel_rfl) (by kernel_rfl) (by kernel_rfl) (fun _ _ _ h => h) (Or.inl ⟨by rfl, fun wz _ => by go_simp⟩) F0 ?_
        simp only [Act.put, List.setIfInBounds_toArray, List.set_cons_zero, List.set_cons_succ]
        refine AnyT.takeD (i := 3) (d := some 37) (v := .slice (some ⟨gs, 0, none⟩) S S) rfl rfl (by kernel_rfl) (by kernel_rfl) (by kernel_rfl) (by kernel_rfl) (fun _ _ _ h => h) (Or.inl ⟨by rfl, fun wz hz => by obtain ⟨z0, z1⟩ := hz; go_simp⟩) F0 ?_
        simp only [Act.put, List.setIfInBounds_toArray, List.set_cons_zero, List.set_cons_succ]
        refine AnyT.takeD (i := 4) (d := some 38) (v := .int .i64 (B : Int)) rfl rfl (by kernel_rfl) (by kernel_rfl) (by kernel_rfl) (by kernel_rfl) (fun _ _ _ h => h) (Or.inl ⟨by rfl, fun wz _ => by go_simp⟩) F0 ?_
        simp only [Act.put, List.setIfInBounds_toArray, List.set_cons_zero, List.set_cons_succ]
        refine AnyT.takeD (i := 5) (d := some 39) (v := .pointer (some ⟨b, 0, none⟩)) rfl rfl (by kernel_rfl) (by kernel_rfl) (by kernel_rfl) (by kernel_rfl) (fun _ _ _ h => h) (Or.inl ⟨by rfl, fun wz _ => by go_simp⟩) F0 ?_
        simp only [Act.put, List.setIfInBounds_toArray, List.set_cons_zero, List.set_cons_succ]
        refine AnyT.takeD (i := 6) (d := some 40) (v := .pointer (some ⟨b, 0, none⟩)) rfl rfl (by kernel_rfl) (by kernel_rfl) (by kernel_rfl) (by kernel_rfl) (fun _ _ _ h => h) (Or.inl ⟨by rfl, fun wz _ => by go_simp⟩) F0 ?_
        simp only [Act.put, List.setIfInBounds_toArray, List.set_cons_zero, List.set_cons_succ]
        refine AnyT.takeD (i := 7) (d := some 41) (v := .pointer (some ⟨b, 2, none⟩)) rfl rfl (by kernel_rfl) (by kernel_rfl) (by kernel_rfl) (by kernel_rfl) (fun _ _ _ h => h) (Or.inl ⟨by rfl, fun wz _ => by go_simp⟩) F0 ?_
        simp only [Act.put, List.setIfInBounds_toArray, List.set_cons_zero, List.set_cons_succ]
        refine AnyT.takeD (i := 8) (d := some 42) (v := .slice (some ⟨gs, 0, none⟩) S S) rfl rfl (by kernel_rfl) (by kernel_rfl) (by kernel_rfl) (by kernel_rfl) (fun _ _ _ h => h) (Or.inl ⟨by rfl, fun wz hz => by obtain ⟨z0, z1⟩ := hz; go_simp⟩) F0 ?_
        simp only [Act.put, List.setIfInBounds_toArray, List.set_cons_zero, List.set_cons_succ]
        refine AnyT.takeD (i := 9) (d := some 43) (v := .int .i64 (B : Int)) rfl rfl (by kernel_rfl) (by kernel_rfl) (by kernel_rfl) (by kernel_rfl) (fun _ _ _ h => h) (Or.inl ⟨by rfl, fun wz _ => by go_simp⟩) F0 ?_
        simp only [Act.put, List.setIfInBounds_toArray, List.set_cons_zero, List.set_cons_succ]
        refine AnyT.takeD (i := 10) (d := some 44) (v := .pointer (some ⟨gs, B, none⟩)) rfl rfl (by kernel_rfl) (by kernel_rfl) (by kernel_rfl) (by kernel_rfl) (fun _ _ _ h => h) (Or.inl ⟨by rfl, fun wz _ => by go_simp⟩) F0 ?_
        simp only [Act.put, List.setIfInBounds_toArray, List.set_cons_zero, List.set_cons_succ]
        refine AnyT.takeD (i := 11) (d := some 45) (v := .slice rA rn rc) rfl rfl (by kernel_rfl) (by kernel_rfl) (by kernel_rfl) (by kernel_rfl) (fun _ _ _ h => h) (Or.inl ⟨by rfl, fun wz hz => by obtain ⟨z0, z1⟩ := hz; go_simp⟩) F0 ?_
        simp only [Act.put, List.setIfInBounds_toArray, List.set_cons_zero, List.set_cons_succ]
        refine AnyT.takeD (i := 12) (d := some 46) (v := .int .i64 (x : Int)) rfl rfl (by kernel_rfl) (by kernel_rfl) (by kernel_rfl) (by kernel_rfl) (fun _ _ _ h => h) (Or.inl ⟨by rfl, fun wz _ => by go_simp⟩) F0 ?_
        simp only [Act.put, List.setIfInBounds_toArray, List.set_cons_zero, List.set_cons_succ]
        -- TAKEN B1
        refine AnyT.branch (rs := [13]) (by kernel_rfl) (by simp) ?_
        refine all_cons (?_) all_nil
        obtain ⟨q1, e1⟩ : ∃ q, q = q0.alloc (.cells #[.int .i64 (x : Int)] 3) := ⟨_, rfl⟩
        have HB1 := Lib.hid (show Below wr.heap.size wr q1 by rw [e1]; exact HQ0.out.alloc HQ0.out.size _)
        have F1 : q1.cell? ⟨b, 2, none⟩ = some (.slice (some ⟨gs, 0, none⟩) S S) ∧ q1.cell? ⟨gs, B, none⟩ = some (.slice rA rn rc) :=
          ⟨(HB1.out.cell (p := ⟨b, 2, none⟩) HM2.out.lt).trans HM2.out.c2, (HB1.out.cell (p := ⟨gs, B, none⟩) HT2.out.lts.1).trans HA.out.cell⟩
        refine AnyT.yield (i := 13) (d := some 47) (v := .slice (some ⟨q0.heap.size, 0, none⟩) 1 1) (w' := q1) rfl rfl rfl (by rw [e1]; go_simp) (fun _ => F1) ?_
        simp only [Act.put, List.setIfInBounds_toArray, List.set_cons_zero, List.set_cons_succ]
        refine AnyT.branch (rs := [14]) (by kernel_rfl) (by simp) ?_
        refine all_cons (?_) all_nil
        refine AnyT.appI (i := 14) (d := some 48) rfl rfl rfl (.tmp 45) (.tmp 47) rfl base (.slice rA rn rc) (toZ (st.getD B [])) rfl (HA.out.own.below HB1.out) (x : Int) q0 e1 _ rfl 1 rfl HML.out (Nat.le_trans HT2.out.lts.2.2 HB1.out.size) ?_
        intro v' q2 AP
        have hag := AP.2.2
        obtain ⟨g', c', rfl, -⟩ := hag
        obtain ⟨y1, y2, y3, y4, y5⟩ := HA.out.app q1 HB1.out x _ q2 AP
        have F2 : q2.cell? ⟨b, 2, none⟩ = some (.slice (some ⟨gs, 0, none⟩) S S) ∧ q2.cell? ⟨gs, B, none⟩ = some (.slice rA rn rc) :=
          ⟨(y4.cell (p := ⟨b, 2, none⟩) (Or.inl HFB.out)).trans HM2.out.c2, y1⟩
        have HY := Lib.hid (And.intro (y3.weak (G := F) (fun _ h => Or.inl h)) (y5.weak (G := F) (fun _ h => Or.inl h)))
        have HFZ := Lib.hid y2
        clear AP y1 y2 y3 y4 y5 F1 F0 e1
        refine ⟨fun _ => F2, ?_⟩
        generalize (toZ (st.getD B [])).length + 1 = nn at *
        simp only [Act.put, List.setIfInBounds_toArray, List.set_cons_zero, List.set_cons_succ]
-- TAKES B2
        refine AnyT.takeD (i := 15) (d := some 49) (v := .pointer (some ⟨gs, B, none⟩)) rfl rfl (by kernel_rfl) (by kernel_rfl) (by kernel_rfl) (by kernel_rfl) (fun _ _ _ h => h) (Or.inl ⟨by rfl, fun wz _ => by go_simp⟩) F2 ?_
        simp only [Act.put, List.setIfInBounds_toArray, List.set_cons_zero, List.set_cons_succ]
        -- TAKEN B2
        refine AnyT.branch (rs := [16]) (by kernel_rfl) (by simp) ?_
        refine all_cons (?_) all_nil
        refine AnyT.step (i := 16) rfl (fun KK hK => ?_)
        obtain ⟨z0, z1⟩ := F2
        have z2 := HFZ.out
        go_simp
        refine hK.out _ _ (fun h => absurd h (by decide)) ?_
        clear hK KK z0 z1 z2 HFZ
        refine AnyT.done_ (by kernel_rfl) ?_ _
        have HFIN := Lib.hid (show putS S (cdN v) t st x = st.set B (st.getD B [] ++ [x]) ∧ putT S (cdN v) (tnN l) t tr x = tr by
          unfold putS putT
          rw [if_pos (by rw [HD.out.1]; exact HD.out.2), if_pos (by rw [HD.out.1]; exact HD.out.2), HD.out.1]
          exact ⟨rfl, rfl⟩)
        clear HA HE0 HQ0 HB1
        go_wp2_with fail
        refine bodyPost_ret (results_none rfl _ _ _) rfl ?_
        rw [HFIN.out.1, HFIN.out.2]
        exact ⟨rfl, HY.out.1, HK2.out.trans HY.out.2⟩
      · have hgi : ¬ (t : Int) ≤ (B : Int) := by omega
        have FI2 := Lib.hid (show ∀ j, j < i + 1 → Z.getD j 0 < t from fun j hj => by
          rcases Nat.lt_or_ge j i with g | g
          · exact FI.out j g
          · obtain rfl : j = i := by omega
            rw [← HBQ.out]; omega)
        go_wp2_with fail
        go_roundw
        case rel => exact ⟨i + 1, by omega, by go_num, FI2, Lib.hid trivial⟩
        case measure => simp [intOf]; omega
    · have hiz : i = zn := by omega
      subst hiz
      have HD := Lib.hid (show dst S (cdN v x) t = S by
        rw [HZ.out] at FI HZN
        exact dst_last hS HRT.out htS (fun j hj => FI.out j (by rw [HZN.out]; exact hj)))
      obtain ⟨B, hB⟩ : ∃ B, B = tnN l x := ⟨_, rfl⟩
      have HBQ := Lib.hid hB
      have hBT : B < T := by rw [HTT.out, hB]; exact HTN.out
      have hBi : (B : Int) < (T : Int) := by omega
      have hBl : B < tr.length := by rw [HTL.out]; exact hBT
      have htv : tv = (B : Int) := by rw [HTV.out, hB]
      subst htv
      obtain ⟨vv, HAT⟩ := HT2.out.symm.at_ (k := B) hBl
      obtain ⟨rA, rc, ev, -, -, -, -⟩ := HAT.own.slice
      obtain ⟨rn, hrn⟩ : ∃ rn, rn = (toZ (tr.getD B [])).length := ⟨_, rfl⟩
      rw [← hrn] at ev
      subst ev
      have HRN := Lib.hid hrn
      have HA := Lib.hid HAT
      have HML := Lib.hid (show (toZ (tr.getD B [])).length + 1 ≤ 1000000000 by rw [toZ_len]; have := HMB2.out B; omega)
      have hni : ¬ (i : Int) < (i : Int) := by omega
      clear hrn HAT hBl hB hlt hi
      go_upto_region 7 with fail
      clear hni
      obtain ⟨q0, e0⟩ : ∃ q, q = wr.drew := ⟨_, rfl⟩
      have HQ0 := Lib.hid (show Below wr.heap.size wr q0 by rw [e0]; exact ⟨rfl, rfl, rfl, Nat.le_refl _, fun _ _ => rfl⟩)
      have F0 : q0.cell? ⟨b, 3, none⟩ = some (.slice (some ⟨gt, 0, none⟩) T T) ∧ q0.cell? ⟨gt, B, none⟩ = some (.slice rA rn rc) ∧ q0.cell? ⟨ib, 0, none⟩ = some (.int .i64 (B : Int)) := by
        rw [e0]; exact ⟨HM2.out.c3, HA.out.cell, HP2.out.c0⟩
      have HE0 := Lib.hid e0
      clear e0
      refine AnyT.begin_at (tlGe 18) (fun X => X.cell? ⟨b, 3, none⟩ = some (.slice (some ⟨gt, 0, none⟩) T T) ∧ X.cell? ⟨gt, B, none⟩ = some (.slice rA rn rc) ∧ X.cell? ⟨ib, 0, none⟩ = some (.int .i64 (B : Int))) (by kernel_rfl) HE0.out F0 ?_
      clear F0
      intro F0
-- TAKES C1
      refine AnyT.takeD (i := 0) (d := some 51) (v := .pointer (some ⟨b, 0, none⟩)) rfl rfl (by kernel_rfl) (by kernel_rfl) (by kernel_rfl) (by kernel_rfl) (fun _ _ _ h => h) (Or.inl ⟨by rfl, fun wz _ => by go_simp⟩) F0 ?_
      simp only [Act.put, List.setIfInBounds_toArray, List.set_cons_zero, List.set_cons_succ]
      refine AnyT.takeD (i := 1) (d := some 52) (v := .pointer (some ⟨b, 0, none⟩)) rfl rfl (by kernel_rfl) (by kernel_rfl) (by kernel_rfl) (by kernel_rfl) (fun _ _ _ h => h) (Or.inl ⟨by rfl, fun wz _ => by go_simp⟩) F0 ?_
      simp only [Act.put, List.setIfInBounds_toArray, List.set_cons_zero, List.set_cons_succ]
      refine AnyT.takeD (i := 2) (d := some 53) (v := .pointer (some ⟨b, 3, none⟩)) rfl rfl (by kernel_rfl) (by kernel_rfl) (by kernel_rfl) (by kernel_rfl) (fun _ _ _ h => h) (Or.inl ⟨by rfl, fun wz _ => by go_simp⟩) F0 ?_
      simp only [Act.put, List.setIfInBounds_toArray, List.set_cons_zero, List.set_cons_succ]
      refine AnyT.takeD (i := 3) (d := some 54) (v := .slice (some ⟨gt, 0, none⟩) T T) rfl rfl (by kernel_rfl) (by kernel_rfl) (by kernel_rfl) (by kernel_rfl) (fun _ _ _ h => h) (Or.inl ⟨by rfl, fun wz hz => by obtain ⟨z0, z1, z2⟩ := hz; go_simp⟩) F0 ?_
      simp only [Act.put, List.setIfInBounds_toArray, List.set_cons_zero, List.set_cons_succ]
      refine AnyT.takeD (i := 4) (d := some 55) (v := .pointer (some ⟨ib, 0, none⟩)) rfl rfl (by kernel_rfl) (by kernel_rfl) (by kernel_rfl) (by kernel_rfl) (fun _ _ _ h => h) (Or.inl ⟨by rfl, fun wz _ => by go_simp⟩) F0 ?_
      simp only [Act.put, List.setIfInBounds_toArray, List.set_cons_zero, List.set_cons_succ]
      refine AnyT.takeD (i := 5) (d := some 56) (v := .int .i64 (B : Int)) rfl rfl (by kernel_rfl) (by kernel_rfl) (by kernel_rfl) (by kernel_rfl) (fun _ _ _ h => h) (Or.inl ⟨by rfl, fun wz hz => by obtain ⟨z0, z1, z2⟩ := hz; go_simp⟩) F0 ?_
      simp only [Act.put, List.setIfInBounds_toArray, List.set_cons_zero, List.set_cons_succ]
      refine AnyT.takeD (i := 6) (d := some 57) (v := .pointer (some ⟨b, 0, none⟩)) rfl rfl (by kernel_rfl) (by kernel_rfl) (by kernel_rfl) (by kernel_rfl) (fun _ _ _ h => h) (Or.inl ⟨by rfl, fun wz _ => by go_simp⟩) F0 ?_
      simp only [Act.put, List.setIfInBounds_toArray, List.set_cons_zero, List.set_cons_succ]
      refine AnyT.takeD (i := 7) (d := some 58) (v := .pointer (some ⟨b, 0, none⟩)) rfl rfl (by kernel_rfl) (by kernel_rfl) (by kernel_rfl) (by kernel_rfl) (fun _ _ _ h => h) (Or.inl ⟨by rfl, fun wz _ => by go_simp⟩) F0 ?_
      simp only [Act.put, List.setIfInBounds_toArray, List.set_cons_zero, List.set_cons_succ]
      refine AnyT.takeD (i := 8) (d := some 59) (v := .pointer (some ⟨b, 3, none⟩)) rfl rfl (by kernel_rfl) (by kernel_rfl) (by kernel_rfl) (by kernel_rfl) (fun _ _ _ h => h) (Or.inl ⟨by rfl, fun wz _ => by go_simp⟩) F0 ?_
      simp only [Act.put, List.setIfInBounds_toArray, List.set_cons_zero, List.set_cons_succ]
      refine AnyT.takeD (i := 9) (d := some 60) (v := .slice (some ⟨gt, 0, none⟩) T T) rfl rfl (by kernel_rfl) (by kernel_rfl) (by kernel_rfl) (by kernel_rfl) (fun _ _ _ h => h) (Or.inl ⟨by rfl, fun wz hz => by obtain ⟨z0, z1, z2⟩ := hz; go_simp⟩) F0 ?_
      simp only [Act.put, List.setIfInBounds_toArray, List.set_cons_zero, List.set_cons_succ]
      refine AnyT.takeD (i := 10) (d := some 61) (v := .pointer (some ⟨ib, 0, none⟩)) rfl rfl (by kernel_rfl) (by kernel_rfl) (by kernel_rfl) (by kernel_rfl) (fun _ _ _ h => h) (Or.inl ⟨by rfl, fun wz _ => by go_simp⟩) F0 ?_
      simp only [Act.put, List.setIfInBounds_toArray, List.set_cons_zero, List.set_cons_succ]
      refine AnyT.takeD (i := 11) (d := some 62) (v := .int .i64 (B : Int)) rfl rfl (by kernel_rfl) (by kernel_rfl) (by kernel_rfl) (by kernel_rfl) (fun _ _ _ h => h) (Or.inl ⟨by rfl, fun wz hz => by obtain ⟨z0, z1, z2⟩ := hz; go_simp⟩) F0 ?_
      simp only [Act.put, List.setIfInBounds_toArray, List.set_cons_zero, List.set_cons_succ]
      refine AnyT.takeD (i := 12) (d := some 63) (v := .pointer (some ⟨gt, B, none⟩)) rfl rfl (by kernel_rfl) (by kernel_rfl) (by kernel_rfl) (by kernel_rfl) (fun _ _ _ h => h) (Or.inl ⟨by rfl, fun wz _ => by go_simp⟩) F0 ?_
      simp only [Act.put, List.setIfInBounds_toArray, List.set_cons_zero, List.set_cons_succ]
      refine AnyT.takeD (i := 13) (d := some 64) (v := .slice rA rn rc) rfl rfl (by kernel_rfl) (by kernel_rfl) (by kernel_rfl) (by kernel_rfl) (fun _ _ _ h => h) (Or.inl ⟨by rfl, fun wz hz => by obtain ⟨z0, z1, z2⟩ := hz; go_simp⟩) F0 ?_
      simp only [Act.put, List.setIfInBounds_toArray, List.set_cons_zero, List.set_cons_succ]
      refine AnyT.takeD (i := 14) (d := some 65) (v := .int .i64 (x : Int)) rfl rfl (by kernel_rfl) (by kernel_rfl) (by kernel_rfl) (by kernel_rfl) (fun _ _ _ h => h) (Or.inl ⟨by rfl, fun wz _ => by go_simp⟩) F0 ?_
      simp only [Act.put, List.setIfInBounds_toArray, List.set_cons_zero, List.set_cons_succ]
      -- TAKEN C1
      refine AnyT.branch (rs := [15]) (by kernel_rfl) (by simp) ?_
      refine all_cons (?_) all_nil
      obtain ⟨q1, e1⟩ : ∃ q, q = q0.alloc (.cells #[.int .i64 (x : Int)] 3) := ⟨_, rfl⟩
      have HB1 := Lib.hid (show Below wr.heap.size wr q1 by rw [e1]; exact HQ0.out.alloc HQ0.out.size _)
      have F1 : q1.cell? ⟨b, 3, none⟩ = some (.slice (some ⟨gt, 0, none⟩) T T) ∧ q1.cell? ⟨gt, B, none⟩ = some (.slice rA rn rc) ∧ q1.cell? ⟨ib, 0, none⟩ = some (.int .i64 (B : Int)) :=
        ⟨(HB1.out.cell (p := ⟨b, 3, none⟩) HM2.out.lt).trans HM2.out.c3, (HB1.out.cell (p := ⟨gt, B, none⟩) HT2.out.ltt.1).trans HA.out.cell, (HB1.out.cell (p := ⟨ib, 0, none⟩) HP2.out.lt).trans HP2.out.c0⟩
      refine AnyT.yield (i := 15) (d := some 66) (v := .slice (some ⟨q0.heap.size, 0, none⟩) 1 1) (w' := q1) rfl rfl rfl (by rw [e1]; go_simp) (fun _ => F1) ?_
      simp only [Act.put, List.setIfInBounds_toArray, List.set_cons_zero, List.set_cons_succ]
      refine AnyT.branch (rs := [16]) (by kernel_rfl) (by simp) ?_
      refine all_cons (?_) all_nil
      refine AnyT.appI (i := 16) (d := some 67) rfl rfl rfl (.tmp 64) (.tmp 66) rfl base (.slice rA rn rc) (toZ (tr.getD B [])) rfl (HA.out.own.below HB1.out) (x : Int) q0 e1 _ rfl 1 rfl HML.out (Nat.le_trans HT2.out.lts.2.2 HB1.out.size) ?_
      intro v' q2 AP
      have hag := AP.2.2
      obtain ⟨g', c', rfl, -⟩ := hag
      obtain ⟨y1, y2, y3, y4, y5⟩ := HA.out.app q1 HB1.out x _ q2 AP
      have F2 : q2.cell? ⟨b, 3, none⟩ = some (.slice (some ⟨gt, 0, none⟩) T T) ∧ q2.cell? ⟨gt, B, none⟩ = some (.slice rA rn rc) ∧ q2.cell? ⟨ib, 0, none⟩ = some (.int .i64 (B : Int)) :=
        ⟨(y4.cell (p := ⟨b, 3, none⟩) (Or.inl HFB.out)).trans HM2.out.c3, y1, (y4.cell (p := ⟨ib, 0, none⟩) (Or.inr rfl)).trans HP2.out.c0⟩
      have HY := Lib.hid (And.intro (y3.symm.weak (G := F) (fun _ h => Or.inl h)) (y5.weak (G := F) (fun _ h => Or.inl h)))
      have HFZ := Lib.hid y2
      clear AP y1 y2 y3 y4 y5 F1 F0 e1
      refine ⟨fun _ => F2, ?_⟩
      generalize (toZ (tr.getD B [])).length + 1 = nn at *
      simp only [Act.put, List.setIfInBounds_toArray, List.set_cons_zero, List.set_cons_succ]
-- TAKES C2
      refine AnyT.takeD (i := 17) (d := some 68) (v := .pointer (some ⟨gt, B, none⟩)) rfl rfl (by kernel_rfl) (by kernel_rfl) (by kernel_rfl) (by kernel_rfl) (fun _ _ _ h => h) (Or.inl ⟨by rfl, fun wz _ => by go_simp⟩) F2 ?_
      simp only [Act.put, List.setIfInBounds_toArray, List.set_cons_zero, List.set_cons_succ]
      -- TAKEN C2
      refine AnyT.branch (rs := [18]) (by kernel_rfl) (by simp) ?_
      refine all_cons (?_) all_nil
      refine AnyT.step (i := 18) rfl (fun KK hK => ?_)
      obtain ⟨z0, z1, z3⟩ := F2
      have z2 := HFZ.out
      go_simp
      refine hK.out _ _ (fun h => absurd h (by decide)) ?_
      clear hK KK z0 z1 z2 z3 HFZ
      refine AnyT.done_ (by kernel_rfl) ?_ _
      have HFIN := Lib.hid (show putS S (cdN v) t st x = st ∧ putT S (cdN v) (tnN l) t tr x = tr.set B (tr.getD B [] ++ [x]) by
        unfold putS putT
        rw [if_neg (by rw [HD.out]; exact Nat.lt_irrefl _), if_neg (by rw [HD.out]; exact Nat.lt_irrefl _), ← HBQ.out]
        exact ⟨rfl, rfl⟩)
      clear HA HE0 HQ0 HB1
      go_wp2_with fail
      go_end0
      rw [HFIN.out.1, HFIN.out.2]
      exact ⟨rfl, HY.out.1, HK2.out.trans HY.out.2⟩
end Go.Proofs.Ytkopbnppjhdbgaa

namespace Go.Proofs.Ytkopbnppjhdbgaa
open Go.RowKit Go.Lib

set_option maxRecDepth 100000 in
set_option maxHeartbeats 1600000 in
/-- A copy of a list. -/
theorem clone_any (zs : List Int) (A : Option Addr) (n c : Nat) (w : World) (h : Row .i64 w w.heap.size A zs) (hn : n = zs.length) (hA : A = none → n = 0 ∧ c = 0) (hl : n ≤ 1000000) :
    Calls Try.prog 80 #[.slice A n c] w fun e w' => ∃ v, e = .returned v ∧ Own .i64 3 w' w.heap.size v zs ∧ Below w.heap.size w w' := by
  cases A with
  | none =>
    obtain ⟨rfl, rfl⟩ := hA rfl
    have hz : zs = [] := List.length_eq_zero_iff.1 hn.symm
    subst hz
    clear h hn hA hl
    have hq : ∀ w, (binOp .eql 25 (.slice none 0 0) (.slice none 0 0)).run Try.prog w = .ok (.bool true) w := fun w => Go.Lib.run_eql_slice_nil w _ _ none 0 0 0 0 Try.underlying25
    go_enter Try.func80, Try.ntmps80
    go_wp2_with fail
    go_ret
    exact ⟨_, rfl, Own.nil, Below.refl _ _⟩
  | some ad =>
    have H := Lib.hid (h.below ((Below.refl w.heap.size w).alloc (Nat.le_refl _) (.cells #[] 3)))
    have HN := Lib.hid hn
    have HMX := Lib.hid (show 0 + n ≤ maxLen by unfold maxLen; omega)
    clear h hn hA
    obtain ⟨i0, hi, hz0, hz1, hz2⟩ := info_parts infoIntW
    have HI := Lib.hid (And.intro hi (And.intro hz0 (And.intro hz1 hz2)))
    clear hi hz0 hz1 hz2
    have hq : ∀ w, (binOp .eql 25 (.slice (some ad) n c) (.slice none 0 0)).run Try.prog w = .ok (.bool false) w := fun w => Go.Lib.run_eql_slice_nil w _ _ (some ad) n c 0 0 Try.underlying25
    go_enter Try.func80, Try.ntmps80
    go_wp2_with (first
      | (at_builtin; refine wpList_app_src rfl (.tmp 5) (.tmp 6) 25 rfl w.heap.size 3 i0 (.int .i64 0) 1 8 Try.underlying25 HI.out.1 HI.out.2.1 HI.out.2.2.1 HI.out.2.2.2 rfl (by decide) _ 0 [] rfl (own_empty (Nat.le_refl _)) (some ad) n c (zs.map (Value.int .i64)) rfl (fun e => by cases e) (by rw [List.length_map, ← HN.out, Nat.mul_one]) (Row.newsO H.out) (one_cells (ys := zs)) HMX.out (by omega) (by simp) ?_; intro v6 w6 hown6 hg6; have S6 := Lib.hid (show Below w.heap.size w w6 from ((Below.refl _ _).alloc (Nat.le_refl _) _).grown hg6 (by simp) (fun g hg => Nat.le_of_eq (Option.some.inj (show some w.heap.size = some g from hg)))); have W6 := Lib.hid hown6; clear hown6 hg6))
    have O6 : Own .i64 3 w6 w.heap.size v6 zs := by
      have := W6.out
      rw [List.nil_append, Nat.zero_add, HN.out] at this
      exact this
    obtain ⟨oA, oc, ev, -⟩ := O6.slice
    have HO := Lib.hid O6
    obtain ⟨on, hon⟩ : ∃ on, on = zs.length := ⟨_, rfl⟩
    rw [← hon] at ev
    subst ev
    clear O6 W6 hon
    go_wp2_with fail
    go_ret
    exact ⟨_, rfl, HO.out, S6.out⟩
/-- A list that grows, whose block none of the lists owns. -/
theorem Two.grow {F : Nat → Prop} {W w' : World} {gs gt base base0 : Nat} {st tr : List (List Nat)} {v v' : Value} {zs : List Int} {y : Int} (h : Two (fun k => F k ∨ v.ownBlock = some k) W gs gt base st tr) (A : AppI base0 v zs y W v' w') (hF : ∀ k, F k → v.ownBlock ≠ some k) :
    Two (fun k => F k ∨ v'.ownBlock = some k) w' gs gt base st tr ∧ Kp F W w' ∧ ∀ k, F k → v'.ownBlock ≠ some k := by
  obtain ⟨O', hg, g', c, rfl, hlt, hat⟩ := A
  have hfr : ∀ k, F k → k < W.heap.size := fun k hk => (h.fs k (Or.inl hk)).1
  have nk : ∀ j, F j → j ≠ g' := fun j hj e => by
    subst e
    rcases hat with e2 | e2
    · exact hF j hj e2
    · have := hfr j hj; omega
  obtain ⟨⟨vs, vt, h1, h2, h3, h4, h5⟩, h6, h7⟩ := h
  have hol : ∀ (g : Nat) us ts, OL W g base us ts → v.ownBlock ≠ some g → (∀ (i : Nat) u, us[i]? = some u → ∀ k, v.ownBlock = some k → u.ownBlock ≠ some k) → OL w' g base us ts := fun g us ts o hne hap =>
    ⟨(hg.block g o.lt (fun e => hne e.symm)).trans o.blk, o.len, fun k u t hu ht => (o.own k u t hu ht).kept hg (by
      cases hq : u.ownBlock with
      | none => exact Or.inl rfl
      | some q => exact Or.inr (fun e => hap k u hu q e.symm hq)), o.apt, o.gb, Nat.le_trans o.le hg.size⟩
  have hg5 : ∀ (g : Nat) us ts, OL W g base us ts → (∀ (i : Nat) u, us[i]? = some u → ∀ k, v.ownBlock = some k → u.ownBlock ≠ some k) → ∀ (i : Nat) u, us[i]? = some u → u.ownBlock ≠ some g' := fun g us ts o hap i u hu e => by
    rcases hat with e2 | e2
    · exact hap i u hu g' e2 e
    · have hil : i < ts.length := by rw [← o.len]; exact (List.getElem?_eq_some_iff.1 hu).1
      have := (own_block (o.own i u _ hu (List.getElem?_eq_getElem hil)) e).2
      omega
  have a1 : v.ownBlock ≠ some gs := fun e => (h7 gs (Or.inr e)).2.1 rfl
  have a2 : v.ownBlock ≠ some gt := fun e => (h7 gt (Or.inr e)).2.2 rfl
  refine ⟨⟨⟨vs, vt, hol gs vs _ h1 a1 (fun i u hu k hk => h4 k (Or.inr hk) i u hu), hol gt vt _ h2 a2 (fun i u hu k hk => h5 k (Or.inr hk) i u hu), h3, fun k hk => ?_, fun k hk => ?_⟩, h6, fun k hk => ?_⟩, ⟨hg.os, hg.tape, hg.output, hg.size, fun j hj => hg.block j (hfr j hj) (fun e => hF j hj e.symm)⟩, fun k hk e => ?_⟩
  · rcases hk with hk | hk
    · exact h4 k (Or.inl hk)
    · obtain rfl : g' = k := by simpa [Value.ownBlock] using hk
      exact hg5 gs vs _ h1 (fun i u hu k hk => h4 k (Or.inr hk) i u hu)
  · rcases hk with hk | hk
    · exact h5 k (Or.inl hk)
    · obtain rfl : g' = k := by simpa [Value.ownBlock] using hk
      exact hg5 gt vt _ h2 (fun i u hu k hk => h5 k (Or.inr hk) i u hu)
  · rcases hk with hk | hk
    · exact ⟨Nat.lt_of_lt_of_le (hfr k hk) hg.size, (h7 k (Or.inl hk)).2⟩
    · obtain rfl : g' = k := by simpa [Value.ownBlock] using hk
      refine ⟨hlt, ?_⟩
      rcases hat with e2 | e2
      · exact (h7 g' (Or.inr e2)).2
      · have := h1.lt; have := h2.lt; omega
  · exact nk k hk (by have : g' = k := by simpa [Value.ownBlock] using e
                      exact this.symm)
theorem Own.kp {k : IntKind} {T : TypeId} {F : Nat → Prop} {w w' : World} {base : Nat} {v : Value} {zs : List Int} (h : Own k T w base v zs) (b : Kp F w w') (hv : ∀ g, v.ownBlock = some g → F g) : Own k T w' base v zs := by
  refine ⟨h.1, ?_⟩
  rcases h.2 with g | ⟨g, cap, cur, e1, e2, e3, e4⟩
  · exact Or.inl g
  · exact Or.inr ⟨g, cap, cur, e1, e2, (b.block g (hv g (by rw [e1]; rfl))).trans e3, e4⟩
theorem comeL_app (L : Nat) (rd : Nat → Nat) (t : Nat) : comeL (L + 1) rd t = if rd L = t then comeL L rd t ++ [L] else comeL L rd t := by
  unfold comeL
  rw [List.range_succ, List.filter_append]
  by_cases e : rd L = t
  · rw [if_pos e]; simp [e]
  · rw [if_neg e]; simp [e]
theorem comeL_len (L : Nat) (rd : Nat → Nat) (t : Nat) : (comeL L rd t).length ≤ L := by
  unfold comeL
  have := List.length_filter_le (fun x => rd x == t) (List.range L)
  simpa using this
set_option maxRecDepth 100000 in
set_option maxHeartbeats 3200000 in
theorem take_any (F : Nat → Prop) (l : List It) (wt : Int) (S : Nat) (v : List Int) (hpl : Pl l wt S v) (A : Option Addr) (c L : Nat) (hL : L = l.length) (pA : Option Addr) (n pc gs gt T base b t B : Nat) (mv pu : Int) (st tr : List (List Nat)) (w : World)
    (hBF : ∀ k, k < B → F k) (h : Row .i64 w B A (flatI l)) (HM : MB w b A L c pA n pc gs S gt T mv pu) (HT : Two F w gs gt base st tr) (hFb : F b) (hst : st.length = S) (htS : t ≤ S) (hb1 : ∀ k, (st.getD k []).length ≤ 1000) :
    Calls Try.prog 65 #[.pointer (some ⟨b, 0, none⟩), .int .i64 (t : Int)] w fun e w' => ∃ u, e = .returned u ∧ Own .i64 3 w' w.heap.size u (toZ (qAt l.length (rdN l) st t)) ∧
      Two (fun k => F k ∨ u.ownBlock = some k) w' gs gt base (cutS st t) tr ∧ Kp F w w' ∧ ∀ k, F k → u.ownBlock ≠ some k := by
  have hS := hpl.s12
  have hL96 : L ≤ 96 := by rw [hL]; exact hpl.l96
  have HBF := Lib.hid hBF
  have H := Lib.hid h
  have HL := Lib.hid hL
  have HPL := Lib.hid hpl
  have HFB := Lib.hid hFb
  have HSL := Lib.hid hst
  have HMM := Lib.hid HM
  have HTT := Lib.hid HT
  by_cases h0 : t = 0
  · subst h0
    have hni : ¬ (0 : Int) < ((0 : Nat) : Int) := by omega
    have hni2 : ¬ (0 : Int) < 0 := by omega
    obtain ⟨m0, m1, m2, m3, m4, m5, mf, mlt⟩ := HM
    have Z0 := Lib.hid (show Two (fun k => F k ∨ (Value.slice none 0 0).ownBlock = some k) w gs gt base (cutS st 0) tr from HT.weak (fun i hi => by
      rcases hi with hi | hi
      · exact hi
      · cases hi))
    clear h hL hpl hst hFb hBF HT mf hb1
    go_enter Try.func65, Try.ntmps65
    go_wp2_with fail
    clear m0 m1 m2 m3 m4 m5 mlt hni hni2
    go_loopw [5, 31] (fun uv iv wr => ∃ k : Nat, k ≤ L ∧ iv = .int .i64 (k : Int) ∧ ∃ uA un uc, uv = .slice uA un uc ∧ Hid (Own .i64 3 wr w.heap.size (.slice uA un uc) (toZ (comeL k (rdN l) 0))) ∧ Hid (Two (fun k => F k ∨ (Value.slice uA un uc).ownBlock = some k) wr gs gt base (cutS st 0) tr) ∧ Hid (Kp F w wr) ∧ Hid (∀ k, F k → (Value.slice uA un uc).ownBlock ≠ some k)) (fun _ iv _ => L - (intOf iv).toNat)
    case atStart => exact ⟨0, by omega, rfl, none, 0, 0, rfl, Lib.hid Own.nil, Z0, Lib.hid (Kp.refl _ _), Lib.hid (fun k _ e => by cases e)⟩
    case round =>
      clear Z0
      obtain ⟨k, hk, rfl, uA, un, uc, rfl, O, Z, K, N⟩ := hrel
      have HR := Lib.hid (show IRow wr A l from ⟨(H.out.under (K.out.below HBF.out)).more (by
        rcases Nat.lt_or_ge wr.heap.size B with g | g
        · have := (HTT.out.fs wr.heap.size (HBF.out _ g)).1; have := K.out.size; omega
        · exact g), by have := HL.out; unfold maxLen; omega⟩)
      by_cases hlt : k < L
      · have hkl : k < l.length := by rw [← HL.out]; exact hlt
        obtain ⟨aA, rfl, CE⟩ := HR.out.at_ k hkl
        obtain ⟨c0, c1, c2, c3⟩ := CE.spelt
        have hki : (k : Int) < (L : Int) := by omega
        obtain ⟨⟨tv, bv, rv, lv⟩, hp4⟩ : ∃ p, p = l.getD k it0 := ⟨_, rfl⟩
        have hrv : rv = (rdN l k : Int) := by
          have := (HPL.out.rd hkl).1
          rw [← this]; unfold rnd; rw [← hp4]
        rw [← hp4] at c0 c1 c2 c3
        obtain ⟨R, hR⟩ : ∃ R, R = rdN l k := ⟨_, rfl⟩
        have HRQ := Lib.hid hR
        rw [← hR] at hrv
        clear hp4 hR
        subst hrv
        have BX := (Below.refl wr.heap.size wr).alloc (Nat.le_refl _) (.cells #[.int .i64 tv, .int .i64 bv, .int .i64 (R : Int), .int .i64 lv] 29)
        have P1 := IPl.new (w := wr) (p := (tv, bv, (R : Int), lv)) (T := 29) wr.heap.size rfl
        have O1 := Lib.hid (O.out.below BX)
        have Z1 := Lib.hid (Z.out.below BX)
        have K1 := Lib.hid (K.out.trans (Kp.of_below (F := F) BX (fun i hi => (Z.out.fs i (Or.inl hi)).1)))
        have hll := comeL_len k (rdN l) 0
        clear CE O Z K
        obtain ⟨q, hq⟩ : ∃ q, q = wr.heap.size := ⟨_, rfl⟩
        go_upto_region 8 with fail
        clear c0 c1 c2 c3
        rw [← hq] at P1 ⊢
        generalize wr.alloc (.cells #[.int .i64 tv, .int .i64 bv, .int .i64 (R : Int), .int .i64 lv] 29) = w1 at *
        clear hq BX
        obtain ⟨p0, p1, p2, p3, plt⟩ := P1
        by_cases e : R = 0
        · have HST := Lib.hid (show comeL (k + 1) (rdN l) 0 = comeL k (rdN l) 0 ++ [k] by rw [comeL_app, if_pos (by rw [← HRQ.out]; exact e)])
          have hre : ((R : Int) == 0) = true := by simp [e]
          have HS2 := Lib.hid (show w.heap.size ≤ w1.heap.size from K1.out.size)
          have HLN := Lib.hid (show (toZ (comeL k (rdN l) 0)).length + 1 ≤ 1000000000 by rw [toZ_len]; omega)
          clear e
          go_wp2_with (first | (at_builtin; refine wpList_appI _ rfl (.tmp 40) (.tmp 42) rfl w.heap.size _ (toZ (comeL k (rdN l) 0)) rfl (O1.out.alloc _) (k : Int) w1 rfl _ rfl 1 rfl HLN.out (le_allocW HS2.out) ?_; intro v6 w6 AP; have ZZ := Lib.hid ((Z1.out.below ((Below.refl _ _).alloc (Nat.le_refl _) _)).grow AP N.out); have OO := Lib.hid AP.1; have KW := Lib.hid (K1.out.trans (Kp.of_below (F := F) ((Below.refl w1.heap.size w1).alloc (Nat.le_refl _) (.cells #[.int .i64 (k : Int)] 3)) (fun i hi => (Z1.out.fs i (Or.inl hi)).1))); have hag := AP.2.2; obtain ⟨g6, c6, rfl, -, -⟩ := hag; clear AP))
          clear p0 p1 p2 p3 O1 Z1 K1 N hre
          go_roundw
          case rel => exact ⟨k + 1, by omega, by go_num, _, _, _, rfl, Lib.hid (by rw [HST.out, toZ_app]; exact OO.out), Lib.hid ZZ.out.1, Lib.hid (KW.out.trans ZZ.out.2.1), Lib.hid ZZ.out.2.2⟩
          case measure => simp [intOf]; omega
        · have HST := Lib.hid (show comeL (k + 1) (rdN l) 0 = comeL k (rdN l) 0 by rw [comeL_app, if_neg (by rw [← HRQ.out]; exact e)])
          have hre : ((R : Int) == 0) = false := by simp; omega
          clear e
          go_wp2_with fail
          clear p0 p1 p2 p3 hre
          go_roundw
          case rel => exact ⟨k + 1, by omega, by go_num, _, _, _, rfl, Lib.hid (by rw [HST.out]; exact O1.out), Z1, K1, N⟩
          case measure => simp [intOf]; omega
      · obtain rfl : k = L := by omega
        go_wp2_with fail
        go_ret
        exact ⟨_, rfl, by have := O.out; rw [HL.out] at this; exact this, Z.out, K.out, N.out⟩
  · obtain ⟨d, rfl⟩ : ∃ d, t = d + 1 := ⟨t - 1, by omega⟩
    have hdS : d < S := by omega
    have hpi : (0 : Int) < ((d + 1 : Nat) : Int) := by omega
    have hpi' : (0 : Int) < (d : Int) + 1 := by omega
    have hdi : (d : Int) < (S : Int) := by omega
    obtain ⟨vv, HAT⟩ := HT.at_ (k := d) (by rw [hst]; exact hdS)
    obtain ⟨rA, rc, ev, RR, hrc, -, hrg⟩ := HAT.own.slice
    obtain ⟨rn, hrn⟩ : ∃ rn, rn = (toZ (st.getD d [])).length := ⟨_, rfl⟩
    have hcell := HAT.cell
    have hown := HAT.own
    rw [← hrn] at ev hrc hrg
    subst ev
    have hrn2 : rn ≤ 1000 := by rw [hrn, toZ_len]; exact hb1 d
    have HCL := Lib.hid (fun (W : World) (k : Row .i64 W W.heap.size rA (toZ (st.getD d []))) (hA : rA = none → rn = 0 ∧ rc = 0) => clone_any (toZ (st.getD d [])) rA rn rc W k hrn hA (by omega))
    have HNA := Lib.hid (show rA = none → rn = 0 ∧ rc = 0 from fun e => by
      subst e
      rcases hown.2 with ⟨e1, _⟩ | ⟨g, cap, cur, e1, _⟩
      · injection e1 with _ e2 e3; exact ⟨e2, e3⟩
      · injection e1 with e1; cases e1)
    have HRR := Lib.hid RR
    have HDS := Lib.hid hdS
    have HSD := Lib.hid (hb1 d)
    obtain ⟨m0, m1, m2, m3, m4, m5, mf, mlt⟩ := HM
    clear h hL hpl hst hFb hBF HT mf hb1 HAT RR hrc hrg hrn hown h0
    go_enter Try.func65, Try.ntmps65
    go_wp2_with fail
    refine (HCL.out w HRR.out HNA.out).mono ?_
    rintro e w1 ⟨u, rfl, OU, BU⟩
    have hu2 := OU.slice
    obtain ⟨uA, uc, ev, -, -, -, -⟩ := hu2
    obtain ⟨un, hun⟩ : ∃ un, un = (toZ (st.getD d [])).length := ⟨_, rfl⟩
    rw [← hun] at ev
    subst ev
    have hTw : Two (fun k => F k ∨ (Value.slice uA un uc).ownBlock = some k) w1 gs gt base st tr := by
      cases hq : (Value.slice uA un uc).ownBlock with
      | none => exact (HTT.out.below BU).weak (fun i hi => by
          rcases hi with hi | hi
          · exact hi
          · cases hi)
      | some q =>
        have hqb := own_block OU hq
        exact (HTT.out.fresh BU (b := q) hqb.1 hqb.2).weak (fun i hi => by
          rcases hi with hi | hi
          · exact Or.inl hi
          · exact Or.inr (Option.some.inj hi).symm)
    have hNN : ∀ k, F k → (Value.slice uA un uc).ownBlock ≠ some k := fun k hk e => by
      have h1 := own_block OU e
      have := (HTT.out.fs k hk).1
      omega
    obtain ⟨v2, e1, e2, e3, e4, e5, e6⟩ := hTw.cut (k := d) (by rw [HSL.out]; exact HDS.out)
    have hM1 := HMM.out.below BU HMM.out.lt
    obtain ⟨m0, m1, m2, m3, m4, m5, mf, mlt⟩ := hM1
    have HO2 := Lib.hid (show Own .i64 3 (w1.setCell ⟨gs, d, none⟩ (.slice none 0 0)) w.heap.size (.slice uA un uc) (toZ (st.getD d [])) from OU.kp e6 (fun g hg => Or.inr hg))
    have HZ2 := Lib.hid (show Two (fun k => F k ∨ (Value.slice uA un uc).ownBlock = some k) (w1.setCell ⟨gs, d, none⟩ (.slice none 0 0)) gs gt base (cutS st (d + 1)) tr from by
      have : cutS st (d + 1) = st.set d [] := rfl
      rw [this]
      exact e4.weak (fun i hi => Or.inl hi))
    have HK2 := Lib.hid ((Kp.of_below (F := F) BU (fun i hi => (HTT.out.fs i hi).1)).trans (e6.weak (fun i hi => Or.inl hi)))
    have HN2 := Lib.hid hNN
    have hM2 := (MB.mk m0 m1 m2 m3 m4 m5 mf mlt).kp (e6.weak (G := F) (fun i hi => Or.inl hi)) HFB.out
    have HM2 := Lib.hid hM2
    clear hcell e3 e4 e5 e6 OU BU hTw hNN mf hun hM2
    go_upto_region 5 with fail
    clear m0 m1 m2 m3 m4 m5 mlt e1 e2
    generalize w1.setCell ⟨gs, d, none⟩ (.slice none 0 0) = w2 at *
    obtain ⟨m0, m1, m2, m3, m4, m5, mf, mlt⟩ := HM2.out
    go_wp2_with fail
    clear m0 m1 m2 m3 m4 m5 mlt mf HM2
    go_loopw [5, 31] (fun uv iv wr => ∃ k : Nat, k ≤ L ∧ iv = .int .i64 (k : Int) ∧ ∃ uA un uc, uv = .slice uA un uc ∧ Hid (Own .i64 3 wr w.heap.size (.slice uA un uc) (toZ (st.getD d [] ++ comeL k (rdN l) (d + 1)))) ∧ Hid (Two (fun k => F k ∨ (Value.slice uA un uc).ownBlock = some k) wr gs gt base (cutS st (d + 1)) tr) ∧ Hid (Kp F w wr) ∧ Hid (∀ k, F k → (Value.slice uA un uc).ownBlock ≠ some k)) (fun _ iv _ => L - (intOf iv).toNat)
    case atStart => exact ⟨0, by omega, rfl, uA, un, uc, rfl, Lib.hid (by have := HO2.out; show Own .i64 3 _ _ _ (toZ (st.getD d [] ++ [])); rw [List.append_nil]; exact this), HZ2, HK2, HN2⟩
    case round =>
      clear HO2 HZ2 HK2 HN2
      obtain ⟨k, hk, rfl, uA, un, uc, rfl, O, Z, K, N⟩ := hrel
      have HR := Lib.hid (show IRow wr A l from ⟨(H.out.under (K.out.below HBF.out)).more (by
        rcases Nat.lt_or_ge wr.heap.size B with g | g
        · have := (HTT.out.fs wr.heap.size (HBF.out _ g)).1; have := K.out.size; omega
        · exact g), by have := HL.out; unfold maxLen; omega⟩)
      by_cases hlt : k < L
      · have hkl : k < l.length := by rw [← HL.out]; exact hlt
        obtain ⟨aA, rfl, CE⟩ := HR.out.at_ k hkl
        obtain ⟨c0, c1, c2, c3⟩ := CE.spelt
        have hki : (k : Int) < (L : Int) := by omega
        obtain ⟨⟨tv, bv, rv, lv⟩, hp4⟩ : ∃ p, p = l.getD k it0 := ⟨_, rfl⟩
        have hrv : rv = (rdN l k : Int) := by
          have := (HPL.out.rd hkl).1
          rw [← this]; unfold rnd; rw [← hp4]
        rw [← hp4] at c0 c1 c2 c3
        obtain ⟨R, hR⟩ : ∃ R, R = rdN l k := ⟨_, rfl⟩
        have HRQ := Lib.hid hR
        rw [← hR] at hrv
        clear hp4 hR
        subst hrv
        have BX := (Below.refl wr.heap.size wr).alloc (Nat.le_refl _) (.cells #[.int .i64 tv, .int .i64 bv, .int .i64 (R : Int), .int .i64 lv] 29)
        have P1 := IPl.new (w := wr) (p := (tv, bv, (R : Int), lv)) (T := 29) wr.heap.size rfl
        have O1 := Lib.hid (O.out.below BX)
        have Z1 := Lib.hid (Z.out.below BX)
        have K1 := Lib.hid (K.out.trans (Kp.of_below (F := F) BX (fun i hi => (Z.out.fs i (Or.inl hi)).1)))
        have hll := comeL_len k (rdN l) (d + 1)
        have HLN := Lib.hid (show (toZ (st.getD d [] ++ comeL k (rdN l) (d + 1))).length + 1 ≤ 1000000000 by rw [toZ_len, List.length_append]; have := HSD.out; omega)
        clear CE O Z K
        obtain ⟨q, hq⟩ : ∃ q, q = wr.heap.size := ⟨_, rfl⟩
        go_upto_region 8 with fail
        clear c0 c1 c2 c3
        rw [← hq] at P1 ⊢
        generalize wr.alloc (.cells #[.int .i64 tv, .int .i64 bv, .int .i64 (R : Int), .int .i64 lv] 29) = w1 at *
        clear hq BX
        obtain ⟨p0, p1, p2, p3, plt⟩ := P1
        by_cases e : R = d + 1
        · have HST := Lib.hid (show comeL (k + 1) (rdN l) (d + 1) = comeL k (rdN l) (d + 1) ++ [k] by rw [comeL_app, if_pos (by rw [← HRQ.out]; exact e)])
          have hre : ((R : Int) == (d : Int) + 1) = true := by simp; omega
          have hre2 : ((R : Int) == ((d + 1 : Nat) : Int)) = true := by simp; omega
          have HS2 := Lib.hid (show w.heap.size ≤ w1.heap.size from K1.out.size)
          clear e
          go_wp2_with (first | (at_builtin; refine wpList_appI _ rfl (.tmp 40) (.tmp 42) rfl w.heap.size _ (toZ (st.getD d [] ++ comeL k (rdN l) (d + 1))) rfl (O1.out.alloc _) (k : Int) w1 rfl _ rfl 1 rfl HLN.out (le_allocW HS2.out) ?_; intro v6 w6 AP; have ZZ := Lib.hid ((Z1.out.below ((Below.refl _ _).alloc (Nat.le_refl _) _)).grow AP N.out); have OO := Lib.hid AP.1; have KW := Lib.hid (K1.out.trans (Kp.of_below (F := F) ((Below.refl w1.heap.size w1).alloc (Nat.le_refl _) (.cells #[.int .i64 (k : Int)] 3)) (fun i hi => (Z1.out.fs i (Or.inl hi)).1))); have hag := AP.2.2; obtain ⟨g6, c6, rfl, -, -⟩ := hag; clear AP))
          clear p0 p1 p2 p3 O1 Z1 K1 N hre hre2
          go_roundw
          case rel => exact ⟨k + 1, by omega, by go_num, _, _, _, rfl, Lib.hid (by rw [HST.out, ← List.append_assoc, show toZ (st.getD d [] ++ comeL k (rdN l) (d + 1) ++ [k]) = toZ (st.getD d [] ++ comeL k (rdN l) (d + 1)) ++ [(k : Int)] from by rw [toZ_app]; rfl]; exact OO.out), Lib.hid ZZ.out.1, Lib.hid (KW.out.trans ZZ.out.2.1), Lib.hid ZZ.out.2.2⟩
          case measure => simp [intOf]; omega
        · have HST := Lib.hid (show comeL (k + 1) (rdN l) (d + 1) = comeL k (rdN l) (d + 1) by rw [comeL_app, if_neg (by rw [← HRQ.out]; exact e)])
          have hre : ((R : Int) == (d : Int) + 1) = false := by simp; omega
          have hre2 : ((R : Int) == ((d + 1 : Nat) : Int)) = false := by simp; omega
          clear e
          go_wp2_with fail
          clear p0 p1 p2 p3 hre hre2
          go_roundw
          case rel => exact ⟨k + 1, by omega, by go_num, _, _, _, rfl, Lib.hid (by rw [HST.out]; exact O1.out), Z1, K1, N⟩
          case measure => simp [intOf]; omega
      · obtain rfl : k = L := by omega
        go_wp2_with fail
        go_ret
        exact ⟨_, rfl, by have := O.out; rw [HL.out] at this; exact this, Z.out, K.out, N.out⟩
end Go.Proofs.Ytkopbnppjhdbgaa

namespace Go.Proofs.Ytkopbnppjhdbgaa
open Go.RowKit Go.Lib

theorem putS_bd {S : Nat} {cd : Nat → Nat} {t M x : Nat} {st : List (List Nat)} (h : ∀ k, (st.getD k []).length ≤ M) : ∀ k, ((putS S cd t st x).getD k []).length ≤ M + 1 := by
  intro k
  unfold putS
  split
  · by_cases g : dst S (cd x) t < st.length
    · rw [getD_setL g]
      split
      · rw [List.length_append, List.length_singleton]; have := h (dst S (cd x) t); omega
      · have := h k; omega
    · rw [List.set_eq_of_length_le (by omega)]; have := h k; omega
  · have := h k; omega
theorem putT_bd {S : Nat} {cd tn : Nat → Nat} {t M x : Nat} {tr : List (List Nat)} (h : ∀ k, (tr.getD k []).length ≤ M) : ∀ k, ((putT S cd tn t tr x).getD k []).length ≤ M + 1 := by
  intro k
  unfold putT
  split
  · have := h k; omega
  · by_cases g : tn x < tr.length
    · rw [getD_setL g]
      split
      · rw [List.length_append, List.length_singleton]; have := h (tn x); omega
      · have := h k; omega
    · rw [List.set_eq_of_length_le (by omega)]; have := h k; omega
theorem foldS_bd {S : Nat} {cd : Nat → Nat} {t : Nat} (q : List Nat) : ∀ (M : Nat) (st : List (List Nat)), (∀ k, (st.getD k []).length ≤ M) → ∀ k, ((q.foldl (putS S cd t) st).getD k []).length ≤ M + q.length := by
  induction q with
  | nil => intro M st h k; exact h k
  | cons x q ih =>
    intro M st h k
    rw [List.foldl_cons]
    have := ih (M + 1) (putS S cd t st x) (putS_bd (S := S) (cd := cd) (t := t) (x := x) h) k
    rw [List.length_cons]; omega
theorem foldT_bd {S : Nat} {cd tn : Nat → Nat} {t : Nat} (q : List Nat) : ∀ (M : Nat) (tr : List (List Nat)), (∀ k, (tr.getD k []).length ≤ M) → ∀ k, ((q.foldl (putT S cd tn t) tr).getD k []).length ≤ M + q.length := by
  induction q with
  | nil => intro M st h k; exact h k
  | cons x q ih =>
    intro M tr h k
    rw [List.foldl_cons]
    have := ih (M + 1) (putT S cd tn t tr x) (putT_bd (S := S) (cd := cd) (tn := tn) (t := t) (x := x) h) k
    rw [List.length_cons]; omega
theorem nodup_le {p : List Nat} (h : p.Nodup) {L : Nat} (hm : ∀ x ∈ p, x < L) : p.length ≤ L := by
  have := List.Nodup.length_le_of_subset h (fun x hx => List.mem_range.2 (hm x hx) : p ⊆ List.range L)
  simpa using this
theorem getD_out {ls : List (List Nat)} {k : Nat} (h : ls.length ≤ k) : ls.getD k [] = [] := by
  rw [List.getD_eq_getElem?_getD, List.getElem?_eq_none h]; rfl
section
variable {S L T : Nat} {cd rd tn : Nat → Nat}
theorem mS_bd (h : FitN S L T cd rd tn) {n : Nat} (hn : n ≤ S + 1) : ∀ k, ((mS S L cd rd n).getD k []).length ≤ L := by
  intro k
  by_cases g : k < S
  · have ho := onS_all h n hn k g
    exact nodup_le (ltN_nodup ho.asc) (fun x hx => ((ho.mem x).1 hx).1)
  · rw [getD_out (by rw [mS_len]; omega)]; exact Nat.zero_le _
theorem mT_bd (h : FitN S L T cd rd tn) {n : Nat} (hn : n ≤ S + 1) : ∀ k, ((mT S L T cd rd tn n).getD k []).length ≤ L := by
  intro k
  by_cases g : k < T
  · have ho := onT_all h n hn k g
    exact nodup_le (ltN_nodup ho.asc) (fun x hx => ((ho.mem x).1 hx).1)
  · rw [getD_out (by rw [mT_len]; omega)]; exact Nat.zero_le _
theorem q_facts (h : FitN S L T cd rd tn) {n : Nat} (hn : n ≤ S) : (∀ x ∈ qAt L rd (mS S L cd rd n) n, x < L ∧ rd x ≤ n) ∧ (qAt L rd (mS S L cd rd n) n).length ≤ L := by
  obtain ⟨qa, qm⟩ := q_asc h hn (onS_all h n (by omega))
  have hx : ∀ x ∈ qAt L rd (mS S L cd rd n) n, x < L ∧ rd x ≤ n := fun x hx => by
    have := (qm x).1 hx
    omega
  exact ⟨hx, nodup_le (ltN_nodup qa) (fun x h => (hx x h).1)⟩
theorem cutS_bd {st : List (List Nat)} {t M : Nat} (h : ∀ k, (st.getD k []).length ≤ M) : ∀ k, ((cutS st t).getD k []).length ≤ M := by
  intro k
  unfold cutS
  split
  · exact h k
  · by_cases g : t - 1 < st.length
    · rw [getD_setL g]
      split
      · exact Nat.zero_le _
      · exact h k
    · rw [List.set_eq_of_length_le (by omega)]; exact h k
end
theorem mM_bd {S L T : Nat} {cd rd tn : Nat → Nat} (h : FitN S L T cd rd tn) (hL : L ≤ 96) (hS : S ≤ 12) : ∀ n, n ≤ S + 1 → mM S L cd rd n ≤ n * 96 := by
  intro n
  induction n with
  | zero => intro _; exact Nat.zero_le _
  | succ n ih =>
    intro hn
    have := ih (by omega)
    have := (q_facts h (n := n) (by omega)).2
    unfold mM
    omega
/-- A store into one of the kept blocks. -/
theorem Two.setF {F : Nat → Prop} {w : World} {gs gt base : Nat} {st tr : List (List Nat)} (h : Two F w gs gt base st tr) {p : Addr} (hp : F p.block) (u : Value) : Two F (w.setCell p u) gs gt base st tr := by
  obtain ⟨⟨vs, vt, h1, h2, h3, h4, h5⟩, h6, h7⟩ := h
  have key : ∀ (g : Nat) us ts, OL w g base us ts → g ≠ p.block → (∀ (i : Nat) u, us[i]? = some u → u.ownBlock ≠ some p.block) → OL (w.setCell p u) g base us ts := fun g us ts o hne hap =>
    ⟨by rw [Below.heap_setCell _ _ _ _ hne]; exact o.blk, o.len, fun k z t hz ht => (o.own k z t hz ht).kept (setCell_grown w p u) (Or.inr (hap k z hz)), o.apt, o.gb, by rw [World.size_setCell]; exact o.le⟩
  exact ⟨⟨vs, vt, key gs vs _ h1 (fun e => (h7 _ hp).2.1 e.symm) (fun i z hz => h4 _ hp i z hz), key gt vt _ h2 (fun e => (h7 _ hp).2.2 e.symm) (fun i z hz => h5 _ hp i z hz), h3, h4, h5⟩, h6, fun k hk => by rw [World.size_setCell]; exact h7 k hk⟩
theorem MB.put4 {w : World} {b : Nat} {A : Option Addr} {L c : Nat} {pA : Option Addr} {n pc gs S gt T : Nat} {mv pu : Int} (h : MB w b A L c pA n pc gs S gt T mv pu) (x : Int) : MB (w.setCell ⟨b, 4, none⟩ (.int .i64 x)) b A L c pA n pc gs S gt T x pu :=
  ⟨by rw [World.cell?_setCell_other _ _ _ _ (by simp)]; exact h.c0, by rw [World.cell?_setCell_other _ _ _ _ (by simp)]; exact h.c1, by rw [World.cell?_setCell_other _ _ _ _ (by simp)]; exact h.c2, by rw [World.cell?_setCell_other _ _ _ _ (by simp)]; exact h.c3, World.cell?_setCell_same _ _ _ h.c4, by rw [World.cell?_setCell_other _ _ _ _ (by simp)]; exact h.c5, fun j => by rw [World.frozen?_setCell]; exact h.f j, by rw [World.size_setCell]; exact h.lt⟩
theorem MB.put5 {w : World} {b : Nat} {A : Option Addr} {L c : Nat} {pA : Option Addr} {n pc gs S gt T : Nat} {mv pu : Int} (h : MB w b A L c pA n pc gs S gt T mv pu) (x : Int) : MB (w.setCell ⟨b, 5, none⟩ (.int .i64 x)) b A L c pA n pc gs S gt T mv x :=
  ⟨by rw [World.cell?_setCell_other _ _ _ _ (by simp)]; exact h.c0, by rw [World.cell?_setCell_other _ _ _ _ (by simp)]; exact h.c1, by rw [World.cell?_setCell_other _ _ _ _ (by simp)]; exact h.c2, by rw [World.cell?_setCell_other _ _ _ _ (by simp)]; exact h.c3, by rw [World.cell?_setCell_other _ _ _ _ (by simp)]; exact h.c4, World.cell?_setCell_same _ _ _ h.c5, fun j => by rw [World.frozen?_setCell]; exact h.f j, by rw [World.size_setCell]; exact h.lt⟩
theorem take_succL {q : List Nat} {j : Nat} (h : j < q.length) : q.take (j + 1) = q.take j ++ [q.getD j 0] := by
  rw [List.take_succ_eq_append_getElem h, List.getD_eq_getElem?_getD, List.getElem?_eq_getElem h]; rfl
/-- What push leaves. -/
def PushPost (F : Nat → Prop) (l : List It) (S : Nat) (v : List Int) (A : Option Addr) (c L : Nat) (pA : Option Addr) (n pc gs gt T base b t : Nat) (w w' : World) : Prop :=
  Two F w' gs gt base (mS S l.length (cdN v) (rdN l) (t + 1)) (mT S l.length T (cdN v) (rdN l) (tnN l) (t + 1)) ∧ MB w' b A L c pA n pc gs S gt T (mM S l.length (cdN v) (rdN l) (t + 1) : Int) (mP S l.length (cdN v) (rdN l) (t + 1) : Int) ∧ Kp (fun k => F k ∧ k ≠ b) w w'
set_option maxRecDepth 100000 in
set_option maxHeartbeats 3200000 in
theorem push_any (F : Nat → Prop) (l : List It) (wt : Int) (S : Nat) (v : List Int) (hpl : Pl l wt S v) (A : Option Addr) (c L : Nat) (hL : L = l.length) (pA : Option Addr) (n pc gs gt T base b t B : Nat) (w : World)
    (hBF : ∀ k, k < B → F k) (h : Row .i64 w B A (flatI l)) (hp : Row .i64 w B pA v) (hn : n = v.length) (HM : MB w b A L c pA n pc gs S gt T (mM S l.length (cdN v) (rdN l) t : Int) (mP S l.length (cdN v) (rdN l) t : Int))
    (HT : Two F w gs gt base (mS S l.length (cdN v) (rdN l) t) (mT S l.length T (cdN v) (rdN l) (tnN l) t)) (hFb : F b) (hT : T = tnT l) (htS : t ≤ S) :
    Calls Try.prog 51 #[.pointer (some ⟨b, 0, none⟩), .int .i64 (t : Int)] w fun e w' => e = .returned (.tuple #[]) ∧ PushPost F l S v A c L pA n pc gs gt T base b t w w' := by
  have hS := hpl.s12
  have hf := hpl.fitN
  rw [← hT] at hf
  have hL96 := hpl.l96
  have hmm := mM_bd hf hL96 hS t (by omega)
  have hmp := mP_le (S := S) (L := l.length) (cd := cdN v) (rd := rdN l) t
  obtain ⟨qf, ql⟩ := q_facts hf htS
  have HSB := Lib.hid (mS_bd hf (n := t) (by omega))
  have HTB := Lib.hid (mT_bd hf (n := t) (by omega))
  have HS1 := Lib.hid (show mS S l.length (cdN v) (rdN l) (t + 1) = (qAt l.length (rdN l) (mS S l.length (cdN v) (rdN l) t) t).foldl (putS S (cdN v) t) (cutS (mS S l.length (cdN v) (rdN l) t) t) from rfl)
  have HT1 := Lib.hid (show mT S l.length T (cdN v) (rdN l) (tnN l) (t + 1) = (qAt l.length (rdN l) (mS S l.length (cdN v) (rdN l) t) t).foldl (putT S (cdN v) (tnN l) t) (mT S l.length T (cdN v) (rdN l) (tnN l) t) from rfl)
  have HM1 := Lib.hid (show mM S l.length (cdN v) (rdN l) (t + 1) = mM S l.length (cdN v) (rdN l) t + (qAt l.length (rdN l) (mS S l.length (cdN v) (rdN l) t) t).length from rfl)
  have HP1 := Lib.hid (show mP S l.length (cdN v) (rdN l) (t + 1) = mP S l.length (cdN v) (rdN l) t + if (qAt l.length (rdN l) (mS S l.length (cdN v) (rdN l) t) t).length = 0 then 0 else 1 from rfl)
  have hsl := mS_len (S := S) (L := l.length) (cd := cdN v) (rd := rdN l) t
  have htl := mT_len (S := S) (L := l.length) (T := T) (cd := cdN v) (rd := rdN l) (tn := tnN l) t
  have HTK := Lib.hid (take_any F l wt S v hpl A c L hL pA n pc gs gt T base b t B _ _ _ _ w hBF h HM HT hFb hsl htS (fun k => by have := HSB.out k; omega))
  obtain ⟨st, hst⟩ : ∃ st, st = mS S l.length (cdN v) (rdN l) t := ⟨_, rfl⟩
  obtain ⟨tr, htr⟩ : ∃ tr, tr = mT S l.length T (cdN v) (rdN l) (tnN l) t := ⟨_, rfl⟩
  obtain ⟨mv, hmv⟩ : ∃ mv, mv = mM S l.length (cdN v) (rdN l) t := ⟨_, rfl⟩
  obtain ⟨pu, hpu⟩ : ∃ pu, pu = mP S l.length (cdN v) (rdN l) t := ⟨_, rfl⟩
  rw [← hst] at HSB HS1 HT1 HM1 HP1 hsl HTK qf ql HT
  rw [← htr] at HTB HT1 htl HTK HT
  rw [← hmv] at HM HM1 hmm
  rw [← hpu] at HM HP1 hmp
  clear hst htr hmv hpu
  obtain ⟨Q, hQ⟩ : ∃ Q, Q = qAt l.length (rdN l) st t := ⟨_, rfl⟩
  rw [← hQ] at HS1 HT1 HM1 HP1 HTK qf ql
  clear hQ
  have HMM := Lib.hid HM
  have HTT := Lib.hid HT
  have H := Lib.hid h
  have HR := Lib.hid hp
  have HBF := Lib.hid hBF
  have HFB := Lib.hid hFb
  have HPL := Lib.hid hpl
  have HL := Lib.hid hL
  have HN := Lib.hid hn
  have HTQ := Lib.hid hT
  have HQF := Lib.hid qf
  have HSL := Lib.hid hsl
  have HTL := Lib.hid htl
  have HL96 := Lib.hid hL96
  have HMB := Lib.hid hmm
  have HPB := Lib.hid hmp
  have HQL := Lib.hid ql
  clear HM HT h hp hBF hFb hpl hL hn hT qf hsl htl hf hL96 hmm hmp ql
  go_enter Try.func51, Try.ntmps51
  go_wp2_with fail
  refine HTK.out.mono ?_
  rintro e w1 ⟨u, rfl, O, Z, K, N⟩
  obtain ⟨uA, uc, ev, UR, -, -, -⟩ := O.slice
  obtain ⟨un, hun⟩ : ∃ un, un = (toZ Q).length := ⟨_, rfl⟩
  rw [← hun] at ev
  subst ev
  have HUN := Lib.hid (show un = Q.length by rw [hun, toZ_len])
  have hun2 : un ≤ 96 := by rw [HUN.out]; exact Nat.le_trans HQL.out HL96.out
  have HO := Lib.hid O
  have Z0 := Lib.hid (show Two (fun k => F k ∨ (Value.slice uA un uc).ownBlock = some k) w1 gs gt base ((Q.take 0).foldl (putS S (cdN v) t) (cutS st t)) ((Q.take 0).foldl (putT S (cdN v) (tnN l) t) tr) from Z)
  have K0 := Lib.hid K
  clear HTK O Z K N UR hun
  go_wp2_with fail
  go_loopw [12] (fun iv wr => ∃ j : Nat, j ≤ un ∧ iv = .int .i64 (j : Int) ∧ Hid (Two (fun k => F k ∨ (Value.slice uA un uc).ownBlock = some k) wr gs gt base ((Q.take j).foldl (putS S (cdN v) t) (cutS st t)) ((Q.take j).foldl (putT S (cdN v) (tnN l) t) tr)) ∧ Hid (Kp F w wr) ∧ Hid (Own .i64 3 wr w.heap.size (.slice uA un uc) (toZ Q))) (fun iv _ => un - (intOf iv).toNat)
  case atStart => exact ⟨0, by omega, rfl, Z0, K0, HO⟩
  case round =>
    clear Z0 K0 HO
    obtain ⟨j, hj, rfl, Z, K, O⟩ := hrel
    by_cases hlt : j < un
    · have hjq : j < Q.length := by rw [← HUN.out]; exact hlt
      have hor := O.out
      obtain ⟨A', c', ev, UR, -, -, -⟩ := hor.slice
      obtain rfl : uA = A' := by injection ev
      obtain ⟨ad, rfl, alt, ca⟩ := UR j (by rw [toZ_len]; exact hjq)
      rw [toZ_at Q hjq] at ca
      have HTS := Lib.hid (take_succL hjq)
      obtain ⟨hx, hr⟩ := HQF.out _ (getD_memN hjq)
      have hji : (j : Int) < (un : Int) := by omega
      obtain ⟨x, hxe⟩ : ∃ x, x = Q.getD j 0 := ⟨_, rfl⟩
      rw [← hxe] at ca HTS hx hr
      have htl : (Q.take j).length = j := by rw [List.length_take]; omega
      have hszB : B ≤ wr.heap.size := by
        rcases Nat.lt_or_ge wr.heap.size B with g | g
        · have := (HTT.out.fs wr.heap.size (HBF.out _ g)).1; have := K.out.size; omega
        · exact g
      have hbel := K.out.below HBF.out
      have HPT := Lib.hid (put_any (fun k => F k ∨ (Value.slice (some ad) un uc).ownBlock = some k) l wt S v HPL.out A c L HL.out pA n pc gs gt T base b x t (96 + j) _ _ _ _ wr
        ⟨(H.out.under hbel).more hszB, by have := HL96.out; unfold maxLen; omega⟩ ((HR.out.under hbel).more hszB) HN.out (HMM.out.kp K.out HFB.out) Z.out (Or.inl HFB.out) (by rw [foldS_len, cutS_len]; exact HSL.out) (by rw [foldT_len]; exact HTL.out) HTQ.out hx hr htS (by omega)
        (fun k => by have := foldS_bd (S := S) (cd := cdN v) (t := t) (Q.take j) 96 _ (cutS_bd (t := t) (fun k => Nat.le_trans (HSB.out k) HL96.out)) k; rw [htl] at this; exact this)
        (fun k => by have := foldT_bd (S := S) (cd := cdN v) (tn := tnN l) (t := t) (Q.take j) 96 _ (fun k => Nat.le_trans (HTB.out k) HL96.out) k; rw [htl] at this; exact this))
      clear UR ev hbel hszB hx hr hxe htl hor
      go_wp2_with fail
      refine HPT.out.mono ?_
      rintro e w2 ⟨rfl, Z2, K2⟩
      have HZ2 := Lib.hid (show Two (fun k => F k ∨ (Value.slice (some ad) un uc).ownBlock = some k) w2 gs gt base ((Q.take (j + 1)).foldl (putS S (cdN v) t) (cutS st t)) ((Q.take (j + 1)).foldl (putT S (cdN v) (tnN l) t) tr) by
        rw [HTS.out, List.foldl_append, List.foldl_append]; exact Z2)
      have HK2 := Lib.hid (K.out.trans (K2.weak (G := F) (fun i hi => Or.inl hi)))
      have HO2 := Lib.hid (O.out.kp K2 (fun g hg => Or.inr hg))
      clear HPT Z2 K2 Z K O ca
      go_wp2_with fail
      go_roundw
      case rel => exact ⟨j + 1, by omega, by go_num, HZ2, HK2, HO2⟩
      case measure => simp [intOf]; omega
    · have hju : j = un := by omega
      have hz := Z.out
      rw [hju, HUN.out, List.take_length, ← HS1.out, ← HT1.out] at hz
      have HZ := Lib.hid (hz.weak (G := F) (fun i hi => Or.inl hi))
      have HMR := Lib.hid (HMM.out.kp K.out HFB.out)
      have hmv1 : mv ≤ 2000 := by have := HMB.out; omega
      have hpu1 : pu ≤ 2000 := by have := HPB.out; omega
      have HMV := Lib.hid (show (mv : Int) + (un : Int) = ((mM S l.length (cdN v) (rdN l) (t + 1) : Nat) : Int) by rw [HM1.out, HUN.out]; omega)
      have M4 := Lib.hid (HMR.out.put4 ((mv : Int) + (un : Int)))
      have Z4 := Lib.hid (HZ.out.setF (p := ⟨b, 4, none⟩) HFB.out (.int .i64 ((mv : Int) + (un : Int))))
      have K4 := Lib.hid ((K.out.weak (G := fun k => F k ∧ k ≠ b) (fun i hi => hi.1)).setCell (p := ⟨b, 4, none⟩) (fun e => e.2 rfl) (.int .i64 ((mv : Int) + (un : Int))))
      obtain ⟨m0, m1, m2, m3, m4, m5, mf, mlt⟩ := HMR.out
      have mf4 := mf 4
      clear hz Z K O HZ hlt hj mf
      have hnj : ¬ (j : Int) < (un : Int) := by omega
      clear hju
      go_upto_region 7 with fail
      clear m0 m1 m2 m3 m4 m5 mf4 mlt hnj hmv1
      generalize wr.setCell ⟨b, 4, none⟩ (.int .i64 ((mv : Int) + (un : Int))) = w4 at *
      obtain ⟨-, -, -, -, -, m5, mf, mlt⟩ := M4.out
      have mf5 := mf 5
      clear mf
      by_cases h0 : un = 0
      · have HP2 := Lib.hid (show (pu : Int) = ((mP S l.length (cdN v) (rdN l) (t + 1) : Nat) : Int) by rw [HP1.out, if_pos (by rw [← HUN.out]; exact h0)]; rfl)
        have hng : ¬ (0 : Int) < (un : Int) := by omega
        clear h0
        go_wp2_with fail
        go_end0
        refine ⟨rfl, Z4.out, ?_, K4.out⟩
        rw [← HMV.out, ← HP2.out]
        exact M4.out
      · have HP2 := Lib.hid (show (pu : Int) + 1 = ((mP S l.length (cdN v) (rdN l) (t + 1) : Nat) : Int) by rw [HP1.out, if_neg (by rw [← HUN.out]; exact h0)]; rfl)
        have hng : (0 : Int) < (un : Int) := by omega
        clear h0
        go_wp2_with fail
        go_end0
        refine ⟨rfl, Z4.out.setF (p := ⟨b, 5, none⟩) HFB.out _, ?_, K4.out.setCell (p := ⟨b, 5, none⟩) (fun e => e.2 rfl) _⟩
        rw [← HMV.out, ← HP2.out]
        exact M4.out.put5 _
end Go.Proofs.Ytkopbnppjhdbgaa

namespace Go.Proofs.Ytkopbnppjhdbgaa
open Go.RowKit

theorem PP.drewR {w : World} {A : Option Addr} {ps : List (List Int)} (h : PP w A ps) (n : Nat) : PP (w.drewN n) A ps := h.below ⟨rfl, rfl, rfl, Nat.le_refl _, fun _ _ => rfl⟩
set_option maxHeartbeats 1600000 in
theorem lsts_same (ps : List (List Int)) (P Q : Option Addr) (n c c' : Nat) (w : World) (hn : n = ps.length) (hl : ps.length ≤ maxLen) (h : PP w P ps) (h' : PP w Q ps) :
    Calls Try.prog 31 #[.slice P n c, .slice Q n c'] w fun e w' => e = .returned (.bool true) ∧ ∃ n, w' = w.drewN n := by
  have H := Lib.hid h
  have H' := Lib.hid h'
  have HL := Lib.hid hn
  rw [← hn] at hl
  unfold maxLen at hl
  clear h h' hn
  go_enter Try.func31, Try.ntmps31
  go_wp2_with fail
  go_loopw [5] (fun i wr => (∃ n, wr = w.drewN n) ∧ ∃ k : Nat, k ≤ n ∧ i = .int .i64 k) (fun i _ => n - (intOf i).toNat)
  case atStart => exact ⟨⟨0, rfl⟩, 0, by omega, rfl⟩
  case round =>
    obtain ⟨⟨d, hw⟩, k, hk, rfl⟩ := hrel
    have HW := Lib.hid (show ∃ n, wr = w.drewN n from ⟨d, hw⟩)
    by_cases hlt : k < n
    · obtain ⟨ad, rfl, a, ca, hc, hr, hm⟩ := H.out.at_ (k := k) (by rw [← HL.out]; exact hlt)
      obtain ⟨ad', rfl, a', ca', hc', hr', hm'⟩ := H'.out.at_ (k := k) (by rw [← HL.out]; exact hlt)
      have HQ := Lib.hid (show ∀ j, Calls Try.prog 30 #[.slice a (ps.getD k []).length ca, .slice a' (ps.getD k []).length ca'] (wr.drewN j) fun e w'' => e = .returned (.bool true) ∧ ∃ m, w'' = wr.drewN m from fun j => by
        have hb : Below w.heap.size w (wr.drewN j) := by rw [hw]; exact ⟨rfl, rfl, rfl, Nat.le_refl _, fun _ _ => rfl⟩
        refine (ints_any _ _ a a' _ _ ca ca' (wr.drewN j) rfl rfl (hr.below hb) (hr'.below hb) hm hm').mono ?_
        rintro e w'' ⟨rfl, m, rfl⟩
        exact ⟨by rw [decide_eq_true rfl], j + m, by rw [World.drewN_drewN]⟩)
      have hd : wr.cell? (ad.add k) = w.cell? (ad.add k) := by rw [hw]; rfl
      have hd' : wr.cell? (ad'.add k) = w.cell? (ad'.add k) := by rw [hw]; rfl
      rw [hc] at hd
      rw [hc'] at hd'
      generalize (ps.getD k []).length = L at *
      clear hc hc' hw hr hr' hm hm'
      go_upto_region 6 with fail
      go_quiet ((go_at_call 30; exact HQ.out _))
      clear hd hd'
      go_wp2_with fail
      go_roundw
      case rel => exact ⟨by obtain ⟨n, rfl⟩ := HW.out; exact ⟨n + nq, by rw [World.drewN_drewN]⟩, k + 1, by omega, by go_num⟩
      case measure => simp [intOf]; omega
    · clear hw
      go_wp2_with fail
      go_ret
      exact ⟨rfl, HW.out⟩
end Go.Proofs.Ytkopbnppjhdbgaa
