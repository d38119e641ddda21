/-
  Stage 12, plain: set bits, codes of a form, how many there are below a number, the next one, the one with an index.
-/
import Derived.Test.YtkopbnppjhdbgaaRows
set_option linter.unusedSimpArgs false
set_option linter.unusedVariables false
namespace Go.Proofs.Ytkopbnppjhdbgaa

/-- The bits of x that are set, of the lowest f. -/
def pcF : Nat → Nat → Nat
  | 0, _ => 0
  | f + 1, x => x % 2 + pcF f (x / 2)
def pc (x : Nat) : Nat := pcF 12 x
theorem pcF_zero (f : Nat) : pcF f 0 = 0 := by
  induction f with
  | zero => rfl
  | succ f ih => unfold pcF; rw [show 0 / 2 = 0 from rfl, ih]
theorem pcF_more (f : Nat) : ∀ x, x < 2 ^ f → pcF (f + 1) x = pcF f x := by
  induction f with
  | zero => intro x hx; obtain rfl : x = 0 := by simpa using hx
            rfl
  | succ f ih =>
    intro x hx
    rw [Nat.pow_succ] at hx
    show x % 2 + pcF (f + 1) (x / 2) = x % 2 + pcF f (x / 2)
    rw [ih (x / 2) (by omega)]
theorem pc_zero : pc 0 = 0 := rfl
theorem pc_step {x : Nat} (h : x < 4096) : pc x = x % 2 + pc (x / 2) := by
  show x % 2 + pcF 11 (x / 2) = x % 2 + pcF 12 (x / 2)
  rw [pcF_more 11 (x / 2) (by omega)]
/-- A test of all numbers below 2^k, behind a base. -/
def allT (p : Nat → Bool) : Nat → Nat → Bool
  | 0, b => p b
  | k + 1, b => allT p k b && allT p k (b + 2 ^ k)
theorem allT_at {p : Nat → Bool} : ∀ (k b : Nat), allT p k b = true → ∀ t, t < 2 ^ k → p (b + t) = true := by
  intro k
  induction k with
  | zero => intro b h t ht; obtain rfl : t = 0 := by simpa using ht
            exact h
  | succ k ih =>
    intro b h t ht
    unfold allT at h
    rw [Bool.and_eq_true] at h
    rw [Nat.pow_succ] at ht
    rcases Nat.lt_or_ge t (2 ^ k) with g | g
    · exact ih b h.1 t g
    · have := ih (b + 2 ^ k) h.2 (t - 2 ^ k) (by omega)
      rwa [show b + 2 ^ k + (t - 2 ^ k) = b + t by omega] at this
theorem allT_all {p : Nat → Bool} {k : Nat} (h : allT p k 0 = true) {t : Nat} (ht : t < 2 ^ k) : p t = true := by
  have := allT_at k 0 h t ht
  rwa [Nat.zero_add] at this
def highB (b : Nat) : Bool := allT (fun t => pc (2 ^ b + t) == 1 + pc t) b 0
set_option maxRecDepth 100000 in
theorem high_all : (List.range 12).all highB = true := by decide +kernel
theorem pc_high {b t : Nat} (hb : b < 12) (ht : t < 2 ^ b) : pc (2 ^ b + t) = 1 + pc t := by
  have h := List.all_eq_true.1 high_all b (List.mem_range.2 hb)
  have := allT_all h ht
  simpa using this
/-- Clearing the lowest bit. -/
def dropB (x : Nat) : Bool := x == 0 || (pc (x &&& (x - 1)) + 1 == pc x && decide (x &&& (x - 1) < x))
set_option maxRecDepth 100000 in
theorem drop_all : allT dropB 12 0 = true := by decide +kernel
theorem pc_drop {x : Nat} (h : x < 4096) (h0 : x ≠ 0) : pc (x &&& (x - 1)) + 1 = pc x ∧ x &&& (x - 1) < x := by
  have e := allT_all drop_all h
  unfold dropB at e
  simp [h0] at e
  exact e

/-- k is a code of the form (r, w). -/
def isC (r w k : Nat) : Bool := decide (k < 4096) && (k % 2 ^ r == 2 ^ r - 1 && decide (pc (k / 2 ^ r) ≤ w))
theorem isC_iff {r w k : Nat} : isC r w k = true ↔ k < 4096 ∧ k % 2 ^ r = 2 ^ r - 1 ∧ pc (k / 2 ^ r) ≤ w := by
  unfold isC; simp
/-- How many codes lie below n. -/
def cnt (r w : Nat) : Nat → Nat
  | 0 => 0
  | n + 1 => cnt r w n + (if isC r w n = true then 1 else 0)
theorem cnt_yes {r w n : Nat} (h : isC r w n = true) : cnt r w (n + 1) = cnt r w n + 1 := by
  show cnt r w n + (if isC r w n = true then 1 else 0) = _
  rw [if_pos h]
theorem cnt_no {r w n : Nat} (h : isC r w n = false) : cnt r w (n + 1) = cnt r w n := by
  show cnt r w n + (if isC r w n = true then 1 else 0) = _
  rw [h]; rfl
theorem cnt_le {r w n m : Nat} (h : n ≤ m) : cnt r w n ≤ cnt r w m := by
  induction m with
  | zero => obtain rfl : n = 0 := by omega
            exact Nat.le_refl _
  | succ m ih =>
    rcases Nat.lt_or_ge m n with g | g
    · obtain rfl : n = m + 1 := by omega
      exact Nat.le_refl _
    · exact Nat.le_trans (ih g) (Nat.le_add_right _ _)
theorem cnt_lt {r w n m : Nat} (h : n < m) (hc : isC r w n = true) : cnt r w n < cnt r w m := by
  have := cnt_le (r := r) (w := w) (show n + 1 ≤ m from h)
  rw [cnt_yes hc] at this; omega
theorem cnt_bd (r w n : Nat) : cnt r w n ≤ n := by
  induction n with
  | zero => exact Nat.le_refl _
  | succ n ih =>
    cases h : isC r w n
    · rw [cnt_no h]; omega
    · rw [cnt_yes h]; omega
theorem cnt_same {r w n m : Nat} (h : n ≤ m) (hn : ∀ x, n ≤ x → x < m → isC r w x = false) : cnt r w n = cnt r w m := by
  induction m with
  | zero => obtain rfl : n = 0 := by omega
            rfl
  | succ m ih =>
    rcases Nat.lt_or_ge m n with g | g
    · obtain rfl : n = m + 1 := by omega
      rfl
    · rw [ih g (fun x h1 h2 => hn x h1 (by omega)), cnt_no (hn m g (by omega))]
theorem cnt_inj {r w n m : Nat} (hn : isC r w n = true) (hm : isC r w m = true) (h : cnt r w n = cnt r w m) : n = m := by
  rcases Nat.lt_trichotomy n m with g | g | g
  · have := cnt_lt g hn; omega
  · exact g
  · have := cnt_lt g hm; omega

theorem pow_mod {r b : Nat} (h : r ≤ b) (t : Nat) : (2 ^ b + t) % 2 ^ r = t % 2 ^ r ∧ (2 ^ b + t) / 2 ^ r = 2 ^ (b - r) + t / 2 ^ r := by
  have e : 2 ^ b = 2 ^ r * 2 ^ (b - r) := by rw [← Nat.pow_add]; congr 1; omega
  rw [e]
  exact ⟨Nat.mul_add_mod _ _ _, Nat.mul_add_div (Nat.two_pow_pos r) _ _⟩
theorem div_lt_pow {r b t : Nat} (h : r ≤ b) (ht : t < 2 ^ b) : t / 2 ^ r < 2 ^ (b - r) := by
  rw [Nat.div_lt_iff_lt_mul (Nat.two_pow_pos r), ← Nat.pow_add]
  rwa [show b - r + r = b by omega]
theorem pow_le12 {b : Nat} (h : b < 12) : 2 ^ b ≤ 2048 := Nat.pow_le_pow_right (by decide) (show b ≤ 11 by omega)
theorem pow_le4096 {b : Nat} (h : b ≤ 12) : 2 ^ b ≤ 4096 := Nat.pow_le_pow_right (by decide) (show b ≤ 12 by omega)
/-- With the bit b. -/
theorem isC_high {r w b t : Nat} (hr : r ≤ b) (hb : b < 12) (ht : t < 2 ^ b) : isC r (w + 1) (2 ^ b + t) = isC r w t := by
  have hp := pow_le12 hb
  have hm := pow_mod hr t
  have hd := div_lt_pow hr ht
  rw [Bool.eq_iff_iff, isC_iff, isC_iff, hm.1, hm.2, pc_high (by omega) hd]
  constructor
  · rintro ⟨h1, h2, h3⟩; exact ⟨by omega, h2, by omega⟩
  · rintro ⟨h1, h2, h3⟩; exact ⟨by omega, h2, by omega⟩
theorem isC_none {r b t : Nat} (hr : r ≤ b) (hb : b < 12) (ht : t < 2 ^ b) : isC r 0 (2 ^ b + t) = false := by
  have hm := pow_mod hr t
  have hd := div_lt_pow hr ht
  rw [Bool.eq_false_iff]
  intro h
  have := (isC_iff.1 h).2.2
  rw [hm.2, pc_high (by omega) hd] at this; omega
theorem cnt_high {r w b : Nat} (hr : r ≤ b) (hb : b < 12) {t : Nat} (ht : t ≤ 2 ^ b) : cnt r (w + 1) (2 ^ b + t) = cnt r (w + 1) (2 ^ b) + cnt r w t := by
  induction t with
  | zero => rfl
  | succ t ih =>
    have e := isC_high (w := w) hr hb (show t < 2 ^ b by omega)
    have i := ih (by omega)
    cases h : isC r w t
    · rw [h] at e
      rw [show 2 ^ b + (t + 1) = (2 ^ b + t) + 1 from rfl, cnt_no e, cnt_no h]; exact i
    · rw [h] at e
      rw [show 2 ^ b + (t + 1) = (2 ^ b + t) + 1 from rfl, cnt_yes e, cnt_yes h]; omega
theorem cnt_none {r b : Nat} (hr : r ≤ b) (hb : b < 12) {t : Nat} (ht : t ≤ 2 ^ b) : cnt r 0 (2 ^ b + t) = cnt r 0 (2 ^ b) :=
  (cnt_same (Nat.le_add_right _ _) (fun x h1 h2 => by
    have := isC_none hr hb (show x - 2 ^ b < 2 ^ b by omega)
    rwa [show 2 ^ b + (x - 2 ^ b) = x by omega] at this)).symm
/-- Below the missed bits there is none. -/
theorem isC_low {r w k : Nat} (h : k < 2 ^ r - 1) : isC r w k = false := by
  rw [Bool.eq_false_iff]
  intro g
  have := (isC_iff.1 g).2.1
  rw [Nat.mod_eq_of_lt (by omega)] at this; omega
theorem cnt_low {r w n : Nat} (h : n ≤ 2 ^ r - 1) : cnt r w n = 0 :=
  ((cnt_same (Nat.zero_le n) (fun x _ h2 => isC_low (by omega))).symm : cnt r w n = cnt r w 0)
theorem isC_first {r w : Nat} (hr : r ≤ 12) : isC r w (2 ^ r - 1) = true := by
  have hp := Nat.two_pow_pos r
  have h4 := pow_le4096 hr
  refine isC_iff.2 ⟨by omega, Nat.mod_eq_of_lt (by omega), ?_⟩
  rw [Nat.div_eq_of_lt (by omega)]; exact Nat.zero_le _
theorem cnt_first {r w : Nat} (hr : r ≤ 12) : cnt r w (2 ^ r) = 1 := by
  have hp := Nat.two_pow_pos r
  have := cnt_yes (isC_first (w := w) hr)
  rw [show 2 ^ r - 1 + 1 = 2 ^ r by omega, cnt_low (Nat.le_refl _)] at this
  exact this

/-- Sums of binomials, as the program makes them. -/
def chP (n : Nat) : Nat → Nat × Nat
  | 0 => (0, 1)
  | i + 1 => ((chP n i).1 + (chP n i).2, (chP n i).2 * (n - i) / (i + 1))
def chN (n w : Nat) : Nat := (chP n (w + 1)).1
set_option maxRecDepth 100000 in
theorem chP_all : (List.range 13).all (fun n => (List.range 15).all (fun i => decide ((chP n i).1 ≤ 4096) && (decide ((chP n i).2 ≤ 4096) && (decide (i ≤ n) || (chP n i).2 == 0)))) = true := by decide +kernel
theorem chP_bd {n i : Nat} (hn : n ≤ 12) (hi : i ≤ 14) : (chP n i).1 ≤ 4096 ∧ (chP n i).2 ≤ 4096 ∧ (i ≤ n ∨ (chP n i).2 = 0) := by
  have h := List.all_eq_true.1 (List.all_eq_true.1 chP_all n (List.mem_range.2 (by omega))) i (List.mem_range.2 (by omega))
  simpa using h
set_option maxRecDepth 100000 in
theorem chN_all : (List.range 12).all (fun n => (List.range 12).all (fun w => chN (n + 1) (w + 1) == chN n (w + 1) + chN n w)) = true := by decide +kernel
theorem chN_add {n w : Nat} (hn : n < 12) (hw : w < 12) : chN (n + 1) (w + 1) = chN n (w + 1) + chN n w := by
  have h := List.all_eq_true.1 (List.all_eq_true.1 chN_all n (List.mem_range.2 hn)) w (List.mem_range.2 hw)
  simpa using h
set_option maxRecDepth 100000 in
theorem chN_ones : (List.range 13).all (fun n => chN n 0 == 1 && chN 0 n == 1) = true := by decide +kernel
theorem chN_zero {n : Nat} (hn : n ≤ 12) : chN n 0 = 1 ∧ chN 0 n = 1 := by
  have h := List.all_eq_true.1 chN_ones n (List.mem_range.2 (by omega))
  simpa using h
theorem chN_pos {n w : Nat} (hn : n ≤ 12) (hw : w ≤ 12) : 1 ≤ chN n w := by
  unfold chN
  have : ∀ i, 1 ≤ (chP n (i + 1)).1 := fun i => by
    induction i with
    | zero => show 1 ≤ (0 + 1 : Nat); omega
    | succ i ih => show 1 ≤ (chP n (i + 1)).1 + _; omega
  exact this w
theorem cnt_top {r : Nat} (d : Nat) : ∀ w, r + d ≤ 12 → w ≤ 12 → cnt r w (2 ^ (r + d)) = chN d w := by
  induction d with
  | zero => intro w hr hw; rw [Nat.add_zero, cnt_first (by omega), (chN_zero (by omega)).2]
  | succ d ih =>
    intro w hr hw
    rw [show r + (d + 1) = (r + d) + 1 from rfl, show 2 ^ (r + d + 1) = 2 ^ (r + d) + 2 ^ (r + d) by rw [Nat.pow_succ]; omega]
    cases w with
    | zero => rw [cnt_none (by omega) (by omega) (Nat.le_refl _), ih 0 (by omega) (by omega), (chN_zero (by omega)).1, (chN_zero (by omega)).1]
    | succ w => rw [cnt_high (by omega) (by omega) (Nat.le_refl _), ih (w + 1) (by omega) hw, ih w (by omega) (by omega), chN_add (by omega) (by omega)]
theorem cnt_at {r b w : Nat} (hr : r ≤ b) (hb : b ≤ 12) (hw : w ≤ 12) : cnt r w (2 ^ b) = chN (b - r) w := by
  have := cnt_top (r := r) (b - r) w (by omega) hw
  rwa [show r + (b - r) = b by omega] at this
theorem cnt_under {r b w : Nat} (h : b < r) : cnt r w (2 ^ b) = 0 := by
  refine cnt_low ?_
  have h1 : 2 ^ (b + 1) ≤ 2 ^ r := Nat.pow_le_pow_right (by decide) h
  rw [Nat.pow_succ] at h1
  have := Nat.two_pow_pos b
  omega

/-- The first code at or above n, with fuel. -/
def nxF (r w : Nat) : Nat → Nat → Nat
  | 0, n => n
  | f + 1, n => if isC r w n = true then n else nxF r w f (n + 1)
def nxt (r w n : Nat) : Nat := nxF r w (4096 - n) n
theorem nxt_hit {r w n : Nat} (h : isC r w n = true) : nxt r w n = n := by
  unfold nxt
  cases 4096 - n with
  | zero => rfl
  | succ f => show (if isC r w n = true then n else _) = n; rw [if_pos h]
theorem nxt_go {r w n : Nat} (h : isC r w n = false) (hn : n < 4096) : nxt r w n = nxt r w (n + 1) := by
  unfold nxt
  rw [show 4096 - n = (4096 - (n + 1)) + 1 by omega]
  show (if isC r w n = true then n else _) = _
  rw [h]; rfl
theorem nxt_end {r w n : Nat} (h : 4096 ≤ n) : nxt r w n = n := by
  unfold nxt
  rw [show 4096 - n = 0 by omega]; rfl
theorem nxt_skip {r w n m : Nat} (h : n ≤ m) (hm : m ≤ 4096) (hn : ∀ x, n ≤ x → x < m → isC r w x = false) : nxt r w n = nxt r w m := by
  induction m with
  | zero => obtain rfl : n = 0 := by omega
            rfl
  | succ m ih =>
    rcases Nat.lt_or_ge m n with g | g
    · obtain rfl : n = m + 1 := by omega
      rfl
    · rw [ih g (by omega) (fun x h1 h2 => hn x h1 (by omega)), nxt_go (hn m g (by omega)) (by omega)]
theorem nxt_none {r w n : Nat} (hn : n ≤ 4096) (h : ∀ x, n ≤ x → x < 4096 → isC r w x = false) : nxt r w n = 4096 := by
  rw [nxt_skip hn (Nat.le_refl _) h, nxt_end (Nat.le_refl _)]
/-- What the next code is. -/
theorem nxt_is (r w n : Nat) : (nxt r w n < 4096 ∧ n ≤ nxt r w n ∧ isC r w (nxt r w n) = true ∧ ∀ x, n ≤ x → x < nxt r w n → isC r w x = false) ∨
    (4096 ≤ nxt r w n ∧ ∀ x, n ≤ x → isC r w x = false) := by
  have key : ∀ f n, 4096 - n = f → (nxt r w n < 4096 ∧ n ≤ nxt r w n ∧ isC r w (nxt r w n) = true ∧ ∀ x, n ≤ x → x < nxt r w n → isC r w x = false) ∨
      (4096 ≤ nxt r w n ∧ ∀ x, n ≤ x → isC r w x = false) := by
    intro f
    induction f with
    | zero =>
      intro n hf
      right
      rw [nxt_end (by omega)]
      refine ⟨by omega, fun x hx => Bool.eq_false_iff.2 (fun g => ?_)⟩
      have := (isC_iff.1 g).1; omega
    | succ f ih =>
      intro n hf
      cases h : isC r w n
      · rw [nxt_go h (by omega)]
        rcases ih (n + 1) (by omega) with ⟨h1, h2, h3, h4⟩ | ⟨h1, h2⟩
        · refine Or.inl ⟨h1, by omega, h3, fun x hx hx2 => ?_⟩
          rcases Nat.eq_or_lt_of_le hx with rfl | g
          · exact h
          · exact h4 x g hx2
        · refine Or.inr ⟨h1, fun x hx => ?_⟩
          rcases Nat.eq_or_lt_of_le hx with rfl | g
          · exact h
          · exact h2 x g
      · rw [nxt_hit h]
        exact Or.inl ⟨(isC_iff.1 h).1, Nat.le_refl _, h, fun x h1 h2 => by omega⟩
  exact key _ n rfl

/-- The code with the index i at or above k, with fuel; 4096 if there is none. -/
def ntF (r w : Nat) : Nat → Nat → Nat → Nat
  | 0, _, _ => 4096
  | f + 1, k, i => if isC r w k = true then (if i = 0 then k else ntF r w f (k + 1) (i - 1)) else ntF r w f (k + 1) i
def nth (r w i : Nat) : Nat := ntF r w 4096 0 i
theorem nth_from {r w i : Nat} : ∀ k, k ≤ 4096 → cnt r w k ≤ i → nth r w i = ntF r w (4096 - k) k (i - cnt r w k) := by
  intro k
  induction k with
  | zero => intro _ _; rfl
  | succ k ih =>
    intro hk hc
    have h1 := cnt_le (r := r) (w := w) (show k ≤ k + 1 by omega)
    rw [ih (by omega) (by omega), show 4096 - k = (4096 - (k + 1)) + 1 by omega]
    cases h : isC r w k
    · rw [cnt_no h]
      show (if isC r w k = true then _ else _) = _
      rw [h]; rfl
    · rw [cnt_yes h] at hc ⊢
      show (if isC r w k = true then _ else _) = _
      rw [if_pos h, if_neg (by omega)]
      congr 1
theorem nth_hit {r w i k : Nat} (h : isC r w k = true) (hc : cnt r w k = i) : nth r w i = k := by
  have h1 := (isC_iff.1 h).1
  rw [nth_from k (by omega) (by omega), show 4096 - k = (4096 - (k + 1)) + 1 by omega]
  show (if isC r w k = true then (if i - cnt r w k = 0 then k else _) else _) = _
  rw [if_pos h, if_pos (by omega)]
theorem nth_none {r w i : Nat} (h : cnt r w 4096 ≤ i) : nth r w i = 4096 := by
  rw [nth_from 4096 (Nat.le_refl _) h]; rfl
theorem cnt_find {r w i n : Nat} (h : i < cnt r w n) : ∃ k, k < n ∧ isC r w k = true ∧ cnt r w k = i := by
  induction n with
  | zero => exact absurd h (Nat.not_lt_zero _)
  | succ n ih =>
    rcases Nat.lt_or_ge i (cnt r w n) with g | g
    · obtain ⟨k, h1, h2, h3⟩ := ih g
      exact ⟨k, by omega, h2, h3⟩
    · cases e : isC r w n
      · rw [cnt_no e] at h; omega
      · rw [cnt_yes e] at h
        exact ⟨n, Nat.lt_succ_self _, e, by omega⟩
theorem nth_is (r w i : Nat) : (i < cnt r w 4096 ∧ nth r w i < 4096 ∧ isC r w (nth r w i) = true ∧ cnt r w (nth r w i) = i) ∨ (cnt r w 4096 ≤ i ∧ nth r w i = 4096) := by
  rcases Nat.lt_or_ge i (cnt r w 4096) with g | g
  · obtain ⟨k, h1, h2, h3⟩ := cnt_find g
    rw [nth_hit h2 h3]
    exact Or.inl ⟨g, h1, h2, h3⟩
  · exact Or.inr ⟨g, nth_none g⟩
end Go.Proofs.Ytkopbnppjhdbgaa
