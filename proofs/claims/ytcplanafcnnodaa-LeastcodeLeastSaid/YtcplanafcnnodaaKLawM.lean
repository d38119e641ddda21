/-
  Stage 12, plain: what the laws ask of the answers.
-/
import Derived.Test.YtcplanafcnnodaaKStep
import Derived.Test.YtcplanafcnnodaaKNth
import Derived.Test.YtcplanafcnnodaaKReal
set_option linter.unusedSimpArgs false
set_option linter.unusedVariables false
namespace Go.Proofs.Ytcplanafcnnodaa
open Go.RowKit

theorem next_cases {R V : Nat} (N : Nat) (hR : R ≤ 12) (hV : V ≤ 12) :
    (∃ K : Nat, N ≤ K ∧ isC R V K = true ∧ (∀ x, N ≤ x → x < K → isC R V x = false) ∧ nextZ (N : Int) (R : Int) (V : Int) = okN K) ∨
    ((∀ x, N ≤ x → isC R V x = false) ∧ nextZ (N : Int) (R : Int) (V : Int) = (0, 15)) := by
  rcases nxt_is R V N with ⟨h1, h2, h3, h4⟩ | ⟨h1, h2⟩
  · exact Or.inl ⟨_, h2, h3, h4, nextZ_hit hR hV h2 h3 h4⟩
  · exact Or.inr ⟨h2, nextZ_none hR hV h1 (fun x a _ => h2 x a)⟩
theorem nth_cases {R V : Nat} (I : Nat) (hR : R ≤ 12) (hV : V ≤ 12) :
    (∃ K : Nat, isC R V K = true ∧ cnt R V K = I ∧ nthZ (I : Int) (R : Int) (V : Int) = okN K) ∨
    (cnt R V 4096 ≤ I ∧ nthZ (I : Int) (R : Int) (V : Int) = (0, 15)) := by
  rcases nth_is R V I with ⟨h1, h2, h3, h4⟩ | ⟨h1, h2⟩
  · exact Or.inl ⟨_, h3, h4, nthZ_hit hR hV h3 h4⟩
  · exact Or.inr ⟨h1, nthZ_none hR hV h1⟩
/-- The code before. -/
theorem nth_pred {R V I K : Nat} (hR : R ≤ 12) (hV : V ≤ 12) (hc : isC R V K = true) (hi : cnt R V K = I + 1) :
    ∃ B : Nat, B < K ∧ nthZ (I : Int) (R : Int) (V : Int) = okN B ∧ nextZ ((B + 1 : Nat) : Int) (R : Int) (V : Int) = okN K := by
  obtain ⟨B, h1, h2, h3⟩ := cnt_find (r := R) (w := V) (i := I) (n := K) (by omega)
  refine ⟨B, h1, nthZ_hit hR hV h2 h3, nextZ_hit hR hV h1 hc (fun x a b => Bool.eq_false_iff.2 (fun g => ?_))⟩
  have e1 := cnt_lt (show B < x from a) h2
  have e2 := cnt_lt b g
  omega
def flatB (n : Nat) : Bool := (List.range 13).all (fun w => decide (w < n) || chN n w == (chP n (n + 1)).1)
set_option maxRecDepth 100000 in
theorem flat_all : (List.range 13).all flatB = true := by decide +kernel
theorem chP_flat {n w : Nat} (hn : n ≤ 12) (hw : w ≤ 12) (h : n ≤ w) : chN n w = (chP n (n + 1)).1 := by
  have e := List.all_eq_true.1 (List.all_eq_true.1 flat_all n (List.mem_range.2 (by omega))) w (List.mem_range.2 (by omega))
  rcases Bool.or_eq_true _ _ ▸ e with g | g
  · have : w < n := by simpa using g
    omega
  · simpa using g
theorem pow_code {h w : Nat} (hh : h < 12) (hw : 0 < w) : isC 0 w (2 ^ h) = true := by
  have hp := pow_le12 hh
  refine isC_iff.2 ⟨by omega, by rw [Nat.pow_zero, Nat.mod_one], ?_⟩
  rw [Nat.pow_zero, Nat.div_one]
  have := pc_high hh (Nat.two_pow_pos h)
  rw [Nat.add_zero, pc_zero] at this
  omega
/-- Codes of a round and those of round 0. -/
theorem isC_shift {R V y : Nat} (h : y * 2 ^ R + mN R < 4096) : isC R V (y * 2 ^ R + mN R) = isC 0 V y := by
  have hp := Nat.two_pow_pos R
  have e1 : (y * 2 ^ R + mN R) % 2 ^ R = 2 ^ R - 1 := by
    unfold mN
    rw [Nat.mul_comm, Nat.mul_add_mod]; exact Nat.mod_eq_of_lt (by omega)
  have e2 : (y * 2 ^ R + mN R) / 2 ^ R = y := by
    unfold mN
    rw [Nat.mul_comm, Nat.mul_add_div hp, Nat.div_eq_of_lt (by omega), Nat.add_zero]
  have hy : y < 4096 := Nat.lt_of_le_of_lt (Nat.le_trans (Nat.le_mul_of_pos_right y hp) (Nat.le_add_right _ _)) h
  rw [Bool.eq_iff_iff, isC_iff, isC_iff, e1, e2, Nat.pow_zero, Nat.mod_one, Nat.div_one]
  constructor
  · rintro ⟨_, _, h3⟩; exact ⟨hy, rfl, h3⟩
  · rintro ⟨_, _, h3⟩; exact ⟨h, rfl, h3⟩
theorem cnt_shift {R V : Nat} : ∀ y, y * 2 ^ R + mN R < 4096 → cnt R V (y * 2 ^ R + mN R) = cnt 0 V y := by
  have hp := Nat.two_pow_pos R
  intro y
  induction y with
  | zero => intro _; rw [Nat.zero_mul, Nat.zero_add]; exact cnt_low (Nat.le_refl _)
  | succ y ih =>
    intro h
    have e : (y + 1) * 2 ^ R = y * 2 ^ R + 2 ^ R := by rw [Nat.add_mul, Nat.one_mul]
    rw [e] at h ⊢
    have hi := ih (by omega)
    have hs := isC_shift (R := R) (V := V) (y := y) (by omega)
    have hgap : cnt R V (y * 2 ^ R + mN R + 1) = cnt R V (y * 2 ^ R + 2 ^ R + mN R) := by
      refine cnt_same (by omega) (fun x h1 h2 => Bool.eq_false_iff.2 (fun g => ?_))
      have hm := form_eq (isC_iff.1 g).2.1
      unfold rpN at hm
      unfold mN at hm h1 h2
      have h3 : y + 1 ≤ x / 2 ^ R := by
        rw [Nat.le_div_iff_mul_le hp, Nat.add_mul, Nat.one_mul]; omega
      have h4 := Nat.mul_le_mul_right (2 ^ R) h3
      rw [Nat.add_mul, Nat.one_mul] at h4
      omega
    rw [← hgap]
    cases hc : isC 0 V y
    · rw [hc] at hs
      rw [cnt_no hs, cnt_no hc]; exact hi
    · rw [hc] at hs
      rw [cnt_yes hs, cnt_yes hc, hi]
theorem pow_split {R : Nat} (hR : R ≤ 12) : 2 ^ (12 - R) * 2 ^ R = 4096 := by
  rw [← Nat.pow_add, show 12 - R + R = 12 by omega]
theorem cnt_round {R V : Nat} (hR : R ≤ 12) (hV : V ≤ 12) : cnt R V 4096 = cnt 0 V (2 ^ (12 - R)) := by
  have e1 := cnt_at (r := R) (b := 12) (w := V) hR (Nat.le_refl _) hV
  have e2 := cnt_at (r := 0) (b := 12 - R) (w := V) (Nat.zero_le _) (by omega) hV
  rw [Nat.sub_zero] at e2
  rw [show 4096 = 2 ^ 12 from rfl, e1, e2]
/-- What CodeRounds asks. -/
theorem rounds_none {R V I : Nat} (hR : R ≤ 12) (hV : V ≤ 12) (h : cnt 0 V 4096 ≤ I) : nthZ (I : Int) (R : Int) (V : Int) = (0, 15) := by
  refine nthZ_none hR hV ?_
  rw [cnt_round hR hV]
  exact Nat.le_trans (cnt_le (pow_le4096 (by omega))) h
theorem rounds_high {R V I B : Nat} (hR : R ≤ 12) (hV : V ≤ 12) (hi : cnt 0 V B = I) (h : 2 ^ (12 - R) ≤ B) : nthZ (I : Int) (R : Int) (V : Int) = (0, 15) := by
  refine nthZ_none hR hV ?_
  rw [cnt_round hR hV, ← hi]
  exact cnt_le h
theorem rounds_hit {R V I B : Nat} (hR : R ≤ 12) (hV : V ≤ 12) (hc : isC 0 V B = true) (hi : cnt 0 V B = I) (h : B < 2 ^ (12 - R)) : B * 2 ^ R + mN R < 4096 ∧ nthZ (I : Int) (R : Int) (V : Int) = okN (B * 2 ^ R + mN R) := by
  have hl : B * 2 ^ R + mN R < 4096 := by
    have hp := Nat.two_pow_pos R
    have h1 := Nat.mul_le_mul_right (2 ^ R) (show B + 1 ≤ 2 ^ (12 - R) from h)
    rw [pow_split hR, Nat.add_mul, Nat.one_mul] at h1
    unfold mN; omega
  exact ⟨hl, nthZ_hit hR hV (by rw [isC_shift hl]; exact hc) (by rw [cnt_shift B hl]; exact hi)⟩
/-- The sum of the powers of a list. -/
def psum : List Int → Nat
  | [] => 0
  | b :: l => 2 ^ b.toNat + psum l
theorem psum_app (l : List Int) (b : Int) : psum (l ++ [b]) = psum l + 2 ^ b.toNat := by
  induction l with
  | nil => show 2 ^ b.toNat + 0 = 0 + 2 ^ b.toNat; omega
  | cons a l ih => show 2 ^ a.toNat + psum (l ++ [b]) = 2 ^ a.toNat + psum l + 2 ^ b.toNat; rw [ih]; omega
theorem psum_le (l : List Int) (i : Nat) : psum (l.take i) ≤ psum l := by
  induction l generalizing i with
  | nil => simp
  | cons a l ih =>
    cases i with
    | zero => exact Nat.zero_le _
    | succ i => show 2 ^ a.toNat + psum (l.take i) ≤ 2 ^ a.toNat + psum l; have := ih i; omega
theorem psum_take (l : List Int) (i : Nat) (h : i < l.length) : psum (l.take (i + 1)) = psum (l.take i) + 2 ^ (l.getD i 0).toNat := by
  rw [List.take_add_one, List.getElem?_eq_getElem h, List.getD_eq_getElem?_getD, List.getElem?_eq_getElem h]
  exact psum_app _ _
/-- The bits of a number make it. -/
theorem bl_sum {K R : Nat} : ∀ b, R ≤ b → psum (blN K R b) + K % 2 ^ R = K % 2 ^ b := by
  intro b
  induction b with
  | zero => intro h; obtain rfl : R = 0 := by omega
            exact Nat.zero_add _
  | succ b ih =>
    intro h
    rcases Nat.eq_or_lt_of_le h with e | e
    · rw [e, blN_low (b + 1) (Nat.le_refl _)]; exact Nat.zero_add _
    · have hi := ih (by omega)
      rw [mod_step]
      by_cases g : K / 2 ^ b % 2 = 1
      · rw [blN_yes (by omega) g, psum_app, g, Int.toNat_natCast]; omega
      · rw [blN_no g, show K / 2 ^ b % 2 = 0 by omega]; omega
theorem bl_mem {K R : Nat} : ∀ b, ∀ x ∈ blN K R b, (R : Int) ≤ x ∧ x < (b : Int) := by
  intro b
  induction b with
  | zero => intro x hx; cases hx
  | succ b ih =>
    intro x hx
    by_cases g : R ≤ b ∧ K / 2 ^ b % 2 = 1
    · rw [blN_yes g.1 g.2, List.mem_append] at hx
      rcases hx with hx | hx
      · have := ih x hx; omega
      · obtain rfl := List.mem_singleton.1 hx; omega
    · have e : blN K R (b + 1) = blN K R b := by
        show (if R ≤ b ∧ K / 2 ^ b % 2 = 1 then _ else _) = _
        rw [if_neg g]
      rw [e] at hx
      have := ih x hx; omega
theorem bl_up {K R : Nat} : ∀ b, ∀ i j, i < j → j < (blN K R b).length → (blN K R b).getD i 0 < (blN K R b).getD j 0 := by
  intro b
  induction b with
  | zero => intro i j _ h; exact absurd h (Nat.not_lt_zero _)
  | succ b ih =>
    intro i j hij hj
    by_cases g : R ≤ b ∧ K / 2 ^ b % 2 = 1
    · rw [blN_yes g.1 g.2] at hj ⊢
      rw [List.length_append] at hj
      simp only [List.length_singleton] at hj
      rcases Nat.lt_or_ge j (blN K R b).length with q | q
      · rw [List.getD_eq_getElem?_getD, List.getD_eq_getElem?_getD, List.getElem?_append_left (by omega), List.getElem?_append_left q, ← List.getD_eq_getElem?_getD, ← List.getD_eq_getElem?_getD]
        exact ih i j hij q
      · obtain rfl : j = (blN K R b).length := by omega
        rw [List.getD_eq_getElem?_getD, List.getD_eq_getElem?_getD, List.getElem?_append_left hij, List.getElem?_append_right (Nat.le_refl _), Nat.sub_self]
        have hm := bl_mem b ((blN K R b).getD i 0) (by
          rw [List.getD_eq_getElem?_getD, List.getElem?_eq_getElem hij]; exact List.getElem_mem hij)
        rw [List.getD_eq_getElem?_getD] at hm
        exact hm.2
    · have e : blN K R (b + 1) = blN K R b := by
        show (if R ≤ b ∧ K / 2 ^ b % 2 = 1 then _ else _) = _
        rw [if_neg g]
      rw [e] at hj ⊢
      exact ih i j hij hj
theorem pcF_up (d : Nat) : ∀ x, pcF (d + 1) x = pcF d x + x / 2 ^ d % 2 := by
  induction d with
  | zero => intro x; show x % 2 + 0 = 0 + x / 2 ^ 0 % 2; rw [Nat.pow_zero, Nat.div_one]; omega
  | succ d ih =>
    intro x
    show x % 2 + pcF (d + 1) (x / 2) = x % 2 + pcF d (x / 2) + x / 2 ^ (d + 1) % 2
    rw [ih, Nat.div_div_eq_div_mul, Nat.pow_succ, Nat.mul_comm 2 (2 ^ d)]; omega
theorem pcF_far (f m : Nat) : ∀ x, x < 2 ^ f → pcF (f + m) x = pcF f x := by
  induction m with
  | zero => intro x _; rfl
  | succ m ih =>
    intro x hx
    rw [show f + (m + 1) = (f + m) + 1 from rfl, pcF_more (f + m) x (Nat.lt_of_lt_of_le hx (Nat.pow_le_pow_right (by decide) (by omega))), ih x hx]
/-- As many bits as the list is long. -/
theorem bl_pcF (K R : Nat) : ∀ d, (blN K R (R + d)).length = pcF d (K / 2 ^ R) := by
  intro d
  induction d with
  | zero => rw [Nat.add_zero, blN_low R (Nat.le_refl _)]; rfl
  | succ d ih =>
    rw [pcF_up, ← ih, Nat.div_div_eq_div_mul, ← Nat.pow_add]
    by_cases g : K / 2 ^ (R + d) % 2 = 1
    · rw [show R + (d + 1) = (R + d) + 1 from rfl, blN_yes (by omega) g, List.length_append, g]; rfl
    · rw [show R + (d + 1) = (R + d) + 1 from rfl, blN_no g]; omega
theorem bl_pc {K R : Nat} (hK : K < 4096) (hR : R ≤ 12) : (blN K R 12).length = pc (K / 2 ^ R) := by
  have h := bl_pcF K R (12 - R)
  rw [show R + (12 - R) = 12 by omega] at h
  rw [h]
  have e := pcF_far (12 - R) R (K / 2 ^ R) (div_lt_pow hR hK)
  rw [show 12 - R + R = 12 by omega] at e
  exact e.symm
def topB (x : Nat) : Bool := x == 0 || (decide (1 ≤ ln x) && x / 2 ^ (ln x - 1) == 1)
set_option maxRecDepth 100000 in
theorem top_all : allT topB 12 0 = true := by decide +kernel
theorem ln_top {x : Nat} (h : x < 4096) (h0 : x ≠ 0) : 1 ≤ ln x ∧ x / 2 ^ (ln x - 1) = 1 := by
  have e := allT_all top_all h
  unfold topB at e
  simp [h0] at e
  exact e
end Go.Proofs.Ytcplanafcnnodaa
