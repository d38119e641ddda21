/-
  Stage 3, plain: what the code corrects and finds; how far code words lie apart.
-/
import Derived.Test.YtbpgbdnfoofnaaaDoorHMath
set_option linter.unusedSimpArgs false
set_option linter.unusedVariables false
namespace Go.Proofs.YtbpgbdnfoofnaaaDoor

theorem enc_ok {v : Nat} (h : v < 2048) : encN v < 65536 ∧ syn (encN v) 16 = 0 ∧ pop (encN v) 16 % 2 = 0 ∧ gat (encN v) 11 = v := by
  have e := allB_at encOk 11 0 encOk_all v (by simpa using h)
  rw [Nat.zero_add] at e
  unfold encOk at e
  simp only [Bool.and_eq_true, decide_eq_true_eq, beq_iff_eq] at e
  exact ⟨e.1.1.1, e.1.1.2, e.1.2, e.2⟩

/-- Syndromes and parities of a sum. -/
theorem syn_xor (a b k : Nat) : syn (a ^^^ b) k = syn a k ^^^ syn b k := by
  induction k with
  | zero => simp [syn]
  | succ k ih =>
    unfold syn
    rw [ih, bitN_xor]
    rcases bitN_two a k with ha | ha <;> rcases bitN_two b k with hb | hb <;> rw [ha, hb] <;> simp
    · rw [Nat.xor_assoc]
    · rw [Nat.xor_assoc, Nat.xor_assoc, Nat.xor_comm k]
    · rw [Nat.xor_assoc, ← Nat.xor_assoc k, Nat.xor_comm k, Nat.xor_assoc, Nat.xor_self, Nat.xor_zero]
theorem pop_xor (a b k : Nat) : pop (a ^^^ b) k % 2 = (pop a k + pop b k) % 2 := by
  induction k with
  | zero => rfl
  | succ k ih =>
    unfold pop
    rw [bitN_xor]
    rcases bitN_two a k with ha | ha <;> rcases bitN_two b k with hb | hb <;> rw [ha, hb] <;> simp <;> omega

theorem one_ok : ∀ p, p < 16 → syn (1 <<< p) 16 = p ∧ pop (1 <<< p) 16 = 1 := by decide +kernel
theorem ne_ok : ∀ p, p < 16 → ∀ q, q < p → p ^^^ q ≠ 0 := by decide +kernel
theorem sh_lt {p : Nat} (h : p < 16) : 1 <<< p < 65536 := by
  rw [Nat.one_shiftLeft]
  have : 2 ^ p < 2 ^ 16 := Nat.pow_lt_pow_right (by decide) h
  omega
theorem xor_lt {a b : Nat} (ha : a < 65536) (hb : b < 65536) : a ^^^ b < 65536 := Nat.xor_lt_two_pow (n := 16) ha hb

theorem dec_enc {v : Nat} (h : v < 2048) : decN (encN v) = ((v : Int), -1, 0) := by
  obtain ⟨_, h2, h3, h4⟩ := enc_ok h
  unfold decN
  rw [if_neg (by omega), if_pos h2, h4]
theorem dec_one {v p : Nat} (h : v < 2048) (hp : p < 16) : decN (encN v ^^^ 1 <<< p) = ((v : Int), (p : Int), 0) := by
  obtain ⟨_, h2, h3, h4⟩ := enc_ok h
  obtain ⟨e1, e2⟩ := one_ok p hp
  have e3 : pop (encN v ^^^ 1 <<< p) 16 % 2 = 1 := by rw [pop_xor, e2]; omega
  have e4 : syn (encN v ^^^ 1 <<< p) 16 = p := by rw [syn_xor, h2, e1, Nat.zero_xor]
  unfold decN
  rw [if_pos e3, e4, Nat.xor_assoc, Nat.xor_self, Nat.xor_zero, h4]
theorem dec_two {v p q : Nat} (h : v < 2048) (hp : p < 16) (hq : q < 16) (hpq : p ≠ q) : decN (encN v ^^^ 1 <<< p ^^^ 1 <<< q) = (0, 0, 9) := by
  obtain ⟨_, h2, h3, h4⟩ := enc_ok h
  obtain ⟨e1, e2⟩ := one_ok p hp
  obtain ⟨f1, f2⟩ := one_ok q hq
  have e3 : pop (encN v ^^^ 1 <<< p ^^^ 1 <<< q) 16 % 2 = 0 := by
    rw [pop_xor, f2, Nat.add_mod, pop_xor, e2]; omega
  have e4 : syn (encN v ^^^ 1 <<< p ^^^ 1 <<< q) 16 ≠ 0 := by
    rw [syn_xor, syn_xor, h2, e1, f1, Nat.zero_xor]
    rcases Nat.lt_or_gt_of_ne hpq with g | g
    · rw [Nat.xor_comm]; exact ne_ok q hq p g
    · exact ne_ok p hp q g
  unfold decN
  rw [if_neg (by omega), if_neg e4]

/-- Whatever the bits below k are: a word with the syndrome s and n bits above them is none of the code's, or it has no bit, or four at least. -/
def farB : Nat → Nat → Nat → Bool
  | 0, s, n => s != 0 || n % 2 == 1 || n == 0 || 4 ≤ n
  | k + 1, s, n => 4 ≤ n || (farB k s n && farB k (s ^^^ k) (n + 1))
theorem farB_at (w k s n : Nat) (h : farB k s n = true) : syn w k ^^^ s ≠ 0 ∨ (n + pop w k) % 2 = 1 ∨ n + pop w k = 0 ∨ 4 ≤ n + pop w k := by
  induction k generalizing s n with
  | zero =>
    unfold farB at h
    simp only [Bool.or_eq_true, bne_iff_ne, beq_iff_eq, decide_eq_true_eq] at h
    simp only [syn, pop, Nat.zero_xor, Nat.add_zero]
    omega
  | succ k ih =>
    unfold farB at h
    simp only [Bool.or_eq_true, Bool.and_eq_true, decide_eq_true_eq] at h
    rcases h with h | ⟨h0, h1⟩
    · exact Or.inr (Or.inr (Or.inr (by omega)))
    · unfold syn pop
      rcases bitN_two w k with hb | hb <;> rw [hb]
      · have := ih s n h0
        simpa using this
      · have := ih (s ^^^ k) (n + 1) h1
        rw [if_pos rfl, Nat.xor_assoc, Nat.xor_comm k s]
        rw [show n + (pop w k + 1) = n + 1 + pop w k by omega]
        exact this
theorem far_all : farB 16 0 0 = true := by decide +kernel
theorem pop_zero {w k : Nat} (h : pop w k = 0) : ∀ j, j < k → bitN w j = 0 := by
  induction k with
  | zero => intro j hj; omega
  | succ k ih =>
    unfold pop at h
    intro j hj
    rcases Nat.lt_succ_iff_lt_or_eq.1 hj with g | rfl
    · exact ih (by omega) j g
    · omega
theorem syn_zero {w k : Nat} (h : pop w k = 0) : syn w k = 0 := by
  induction k with
  | zero => rfl
  | succ k ih =>
    have e := pop_zero h k (by omega)
    unfold pop at h
    unfold syn
    rw [e, if_neg (by decide)]
    exact ih (by omega)
theorem gat_same {a b : Nat} (h : ∀ j, j < 16 → bitN a j = bitN b j) (k : Nat) : gat a k = gat b k := by
  induction k with
  | zero => rfl
  | succ k ih => unfold gat; rw [ih, h _ (pl_lt k)]
theorem xor_bit_zero {a b j : Nat} (h : bitN (a ^^^ b) j = 0) : bitN a j = bitN b j := by
  rw [bitN_xor] at h
  rcases bitN_two a j with ha | ha <;> rcases bitN_two b j with hb | hb <;> rw [ha, hb] at h ⊢ <;> revert h <;> decide
/-- Code words of different values differ in four bits at least. -/
theorem far {v u : Nat} (hv : v < 2048) (hu : u < 2048) (h : v ≠ u) : 4 ≤ pop (encN v ^^^ encN u) 16 := by
  obtain ⟨_, h2, h3, h4⟩ := enc_ok hv
  obtain ⟨_, g2, g3, g4⟩ := enc_ok hu
  have e := farB_at (encN v ^^^ encN u) 16 0 0 far_all
  rw [Nat.xor_zero, syn_xor, h2, g2, Nat.zero_add, pop_xor, Nat.zero_xor] at e
  rcases e with e | e | e | e
  · exact absurd rfl e
  · omega
  · exfalso
    refine h ?_
    rw [← h4, ← g4]
    exact gat_same (fun j hj => xor_bit_zero (pop_zero e j hj)) 11
  · exact e
theorem near (v : Nat) : pop (encN v ^^^ encN v) 16 = 0 := by rw [Nat.xor_self]; decide
end Go.Proofs.YtbpgbdnfoofnaaaDoor
