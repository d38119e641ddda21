/-
  Stage 3: packed bytes of which bits are changed.
-/
import Derived.Test.YtbpgbdnfoofnaaaDoorHRows
set_option linter.unusedSimpArgs false
set_option linter.unusedVariables false
namespace Go.Proofs.YtbpgbdnfoofnaaaDoor
open Go.RowKit

theorem join_xor (a b : Nat) (hb : b < 256) : a * 256 + b = a <<< 8 ^^^ b := by
  refine Nat.eq_of_testBit_eq fun j => ?_
  rw [Nat.testBit_xor, Nat.testBit_shiftLeft, show a * 256 + b = 2 ^ 8 * a + b by omega, Nat.testBit_two_pow_mul_add a (show b < 2 ^ 8 from hb)]
  by_cases h : j < 8
  · rw [if_pos h]; simp [show ¬ 8 ≤ j by omega]
  · rw [if_neg h, Nat.testBit_lt_two_pow (x := b) (i := j) (Nat.lt_of_lt_of_le hb (Nat.pow_le_pow_right (n := 2) (by decide) (show 8 ≤ j by omega)))]
    simp [show 8 ≤ j by omega]
theorem flip_lo (a b p : Nat) (hb : b < 256) (hp : p < 8) : a * 256 + (b ^^^ 1 <<< p) = (a * 256 + b) ^^^ 1 <<< p := by
  have h1 : 1 <<< p < 256 := by
    rw [Nat.one_shiftLeft]
    have : 2 ^ p ≤ 2 ^ 7 := Nat.pow_le_pow_right (by decide) (by omega)
    omega
  have h2 : b ^^^ 1 <<< p < 256 := Nat.xor_lt_two_pow (n := 8) hb h1
  rw [join_xor a _ h2, join_xor a b hb, Nat.xor_assoc]
theorem flip_hi (a b p : Nat) (hb : b < 256) : (a ^^^ 1 <<< p) * 256 + b = (a * 256 + b) ^^^ 1 <<< (p + 8) := by
  rw [join_xor _ b hb, join_xor a b hb, Nat.shiftLeft_xor_distrib, Nat.shiftLeft_add, Nat.xor_assoc, Nat.xor_assoc, Nat.xor_comm b]
theorem xor8 {b p : Nat} (hb : b < 256) (hp : p < 8) : b ^^^ 1 <<< p < 256 := by
  have h1 : 1 <<< p < 256 := by
    rw [Nat.one_shiftLeft]
    have : 2 ^ p ≤ 2 ^ 7 := Nat.pow_le_pow_right (by decide) (by omega)
    omega
  exact Nat.xor_lt_two_pow (n := 8) hb h1

/-- Bytes. -/
def byt (xs : List Int) : Prop := ∀ z ∈ xs, 0 ≤ z ∧ z ≤ 255
theorem byt.nat {xs : List Int} (h : byt xs) {i : Nat} (hi : i < xs.length) : ∃ x : Nat, xs.getD i 0 = x ∧ x < 256 := by
  have := h _ (getD_mem hi)
  exact ⟨(xs.getD i 0).toNat, by omega, by omega⟩
/-- The place of the byte of a bit, and the byte with it changed. -/
def plc (i p : Nat) : Nat := 2 * i + 1 - p / 8
def chg (x p : Nat) : Nat := x ^^^ 1 <<< (p % 8)
def flipX (xs : List Int) (i p : Nat) : List Int := xs.set (plc i p) ((chg (xs.getD (plc i p) 0).toNat p : Nat) : Int)
theorem flipX_len (xs : List Int) (i p : Nat) : (flipX xs i p).length = xs.length := by unfold flipX; rw [List.length_set]
theorem set_getD (xs : List Int) (i j : Nat) (v : Int) (hi : i < xs.length) : (xs.set i v).getD j 0 = if j = i then v else xs.getD j 0 := by
  rw [List.getD_eq_getElem?_getD, List.getElem?_set]
  by_cases e : i = j
  · subst e; rw [if_pos rfl, if_pos hi, if_pos rfl]; rfl
  · rw [if_neg e, if_neg (Ne.symm e), List.getD_eq_getElem?_getD]
theorem chg_lt {x p : Nat} (hx : x < 256) : chg x p < 256 := xor8 hx (by omega)
theorem flipX_byt {xs : List Int} (h : byt xs) (i p : Nat) (hi : plc i p < xs.length) : byt (flipX xs i p) := fun z hz => by
  obtain ⟨x, hx, hl⟩ := h.nat hi
  rcases List.mem_or_eq_of_mem_set hz with g | rfl
  · exact h z g
  · rw [hx, Int.toNat_natCast]
    have := chg_lt (p := p) hl
    omega
/-- The word's change. -/
theorem flipX_word {xs : List Int} (h : byt xs) {i p : Nat} (hp : p < 16) (hi : 2 * i + 1 < xs.length) {W : Nat} (hW : word xs i = W) : word (flipX xs i p) i = ((W ^^^ 1 <<< p : Nat) : Int) := by
  obtain ⟨a, ha, la⟩ := h.nat (i := 2 * i) (by omega)
  obtain ⟨b, hb, lb⟩ := h.nat hi
  have eW : W = a * 256 + b := by
    unfold word at hW; rw [ha, hb] at hW; omega
  unfold word flipX
  rw [set_getD _ _ _ _ (by unfold plc; omega), set_getD _ _ _ _ (by unfold plc; omega)]
  rcases Nat.lt_or_ge p 8 with g | g
  · have e : plc i p = 2 * i + 1 := by unfold plc; omega
    rw [e, if_neg (by omega), if_pos rfl, ha, hb, Int.toNat_natCast]
    unfold chg
    rw [Nat.mod_eq_of_lt g, eW, ← flip_lo a b p lb g]
    omega
  · have e : plc i p = 2 * i := by unfold plc; omega
    rw [e, if_pos rfl, if_neg (by omega), ha, hb, Int.toNat_natCast]
    unfold chg
    rw [show p % 8 = p - 8 by omega, eW, show (1 : Nat) <<< p = 1 <<< (p - 8 + 8) by rw [Nat.sub_add_cancel g], ← flip_hi a b (p - 8) lb]
    omega
theorem flipX_other (xs : List Int) {i j p : Nat} (hp : p < 16) (hi : 2 * i + 1 < xs.length) (hij : j ≠ i) : word (flipX xs i p) j = word xs j := by
  unfold word flipX
  rw [set_getD _ _ _ _ (by unfold plc; omega), set_getD _ _ _ _ (by unfold plc; omega), if_neg (by unfold plc; omega), if_neg (by unfold plc; omega)]

/-- The words of packed values. -/
theorem two_word (zs : List Int) (hz : ∀ v ∈ zs, okV v) (i : Nat) (hi : i < zs.length) : word (zs.flatMap two) i = ((encN (zs.getD i 0).toNat : Nat) : Int) := by
  induction zs generalizing i with
  | nil => simp at hi
  | cons a l ih =>
    have hl : ∀ v ∈ l, okV v := fun v hv => hz v (List.mem_cons_of_mem _ hv)
    rw [List.flatMap_cons]
    cases i with
    | zero =>
      unfold word two
      have e : (a :: l).getD 0 0 = a := rfl
      rw [e]
      simp
      omega
    | succ i =>
      have := ih hl i (by simpa using hi)
      unfold word two at *
      rw [show 2 * (i + 1) = (2 * i) + 2 by omega, show 2 * i + 2 + 1 = (2 * i + 1) + 2 by omega]
      simpa using this
theorem two_byt (zs : List Int) (hz : ∀ v ∈ zs, okV v) : byt (zs.flatMap two) := fun z hm => by
  obtain ⟨v, hv, h2⟩ := List.mem_flatMap.1 hm
  have h1 := (enc_ok (v := v.toNat) (by have := hz v hv; unfold okV at this; omega)).1
  unfold two at h2
  simp only [List.mem_cons, List.not_mem_nil, or_false] at h2
  rcases h2 with rfl | rfl <;> omega

/-- The bytes xs carry the values zs; from the word k on nothing is changed. -/
structure Good (zs xs : List Int) (k : Nat) : Prop where
  len : xs.length = 2 * zs.length
  byt : byt xs
  old : ∀ i, k ≤ i → i < zs.length → word xs i = ((encN (zs.getD i 0).toNat : Nat) : Int)
  val : ∀ i, i < k → i < zs.length → ∃ b, decR (word xs i) = (zs.getD i 0, b, 0)
theorem Good.start {zs : List Int} (hz : ∀ v ∈ zs, okV v) : Good zs (zs.flatMap two) 0 := ⟨two_len zs, two_byt zs hz, fun i _ hi => two_word zs hz i hi, fun i h => absurd h (by omega)⟩
theorem okV_nat {v : Int} (h : okV v) : v.toNat < 2048 ∧ ((v.toNat : Nat) : Int) = v := by unfold okV at h; omega
theorem Good.skip {zs xs : List Int} {k : Nat} (h : Good zs xs k) (hz : ∀ v ∈ zs, okV v) (hk : k < zs.length) : Good zs xs (k + 1) := by
  refine ⟨h.len, h.byt, fun i hi hl => h.old i (by omega) hl, fun i hi hl => ?_⟩
  rcases Nat.lt_succ_iff_lt_or_eq.1 hi with g | rfl
  · exact h.val i g hl
  · obtain ⟨l1, l2⟩ := okV_nat (hz _ (getD_mem hl))
    rw [h.old i (Nat.le_refl _) hl, decR_nat (enc_ok l1).1, dec_enc l1, l2]
    exact ⟨_, rfl⟩
theorem Good.flip {zs xs : List Int} {k p : Nat} (h : Good zs xs k) (hz : ∀ v ∈ zs, okV v) (hk : k < zs.length) (hp : p < 16) : Good zs (flipX xs k p) (k + 1) := by
  have hi : 2 * k + 1 < xs.length := by rw [h.len]; omega
  refine ⟨by rw [flipX_len]; exact h.len, flipX_byt h.byt k p (by unfold plc; omega), fun i hi' hl => ?_, fun i hi' hl => ?_⟩
  · rw [flipX_other xs hp hi (by omega)]; exact h.old i (by omega) hl
  · rcases Nat.lt_succ_iff_lt_or_eq.1 hi' with g | rfl
    · rw [flipX_other xs hp hi (by omega)]; exact h.val i g hl
    · obtain ⟨l1, l2⟩ := okV_nat (hz _ (getD_mem hl))
      rw [flipX_word h.byt hp hi (h.old i (Nat.le_refl _) hl), decR_nat (xor_lt (enc_ok l1).1 (sh_lt hp)), dec_one l1 hp, l2]
      exact ⟨_, rfl⟩
theorem range_getD (zs : List Int) : (List.range zs.length).map (fun i => zs.getD i 0) = zs := by
  refine List.ext_getElem? fun j => ?_
  rw [List.getElem?_map]
  by_cases h : j < zs.length
  · rw [List.getElem?_range h, List.getElem?_eq_getElem h]; simp [h]
  · rw [List.getElem?_eq_none (by simpa using h), List.getElem?_eq_none (by omega)]; rfl
theorem Good.unpack {zs xs : List Int} (h : Good zs xs zs.length) (hl : zs.length ≤ 65536) : unpackR xs = (zs, [], 0) := by
  rw [unpackR_ok (n := zs.length) (by rw [h.len]; omega) h.len]
  have e1 : unvs xs zs.length = zs := by
    refine Eq.trans ?_ (range_getD zs)
    unfold unvs
    refine List.map_congr_left fun i hi => ?_
    obtain ⟨b, hb⟩ := h.val i (by simpa using hi) (by simpa using hi)
    unfold unv
    rw [hb, if_pos rfl]
  have e2 : gaps xs zs.length = [] := by
    unfold gaps
    rw [List.filter_eq_nil_iff.2 (fun i hi => ?_)]
    · rfl
    · obtain ⟨b, hb⟩ := h.val i (by simpa using hi) (by simpa using hi)
      unfold lostB
      rw [hb]; simp
  rw [e1, e2]

/-- Two bits of one word are changed: it is lost, and no other. -/
theorem lost_unpack {zs xs : List Int} {k p q : Nat} (h : Good zs xs 0) (hz : ∀ v ∈ zs, okV v) (hk : k < zs.length) (hp : p < 16) (hq : q < 16) (hpq : p ≠ q) (hl : zs.length ≤ 65536) :
    unpackR (flipX (flipX xs k p) k q) = (zs.set k (-1), [(k : Int)], 0) ∧ byt (flipX (flipX xs k p) k q) := by
  have hi : 2 * k + 1 < xs.length := by rw [h.len]; omega
  have hb1 := flipX_byt h.byt k p (by unfold plc; omega)
  have hl1 := flipX_len xs k p
  have hl2 := flipX_len (flipX xs k p) k q
  obtain ⟨l1, l2⟩ := okV_nat (hz _ (getD_mem hk))
  have hw : decR (word (flipX (flipX xs k p) k q) k) = (0, 0, 9) := by
    rw [flipX_word hb1 hq (by omega) (flipX_word h.byt hp hi (h.old k (by omega) hk)), decR_nat (xor_lt (xor_lt (enc_ok l1).1 (sh_lt hp)) (sh_lt hq)), dec_two l1 hp hq hpq]
  have ho : ∀ i, i ≠ k → i < zs.length → ∃ b, decR (word (flipX (flipX xs k p) k q) i) = (zs.getD i 0, b, 0) := fun i hne hil => by
    obtain ⟨m1, m2⟩ := okV_nat (hz _ (getD_mem hil))
    rw [flipX_other _ hq (by omega) hne, flipX_other _ hp hi hne, h.old i (by omega) hil, decR_nat (enc_ok m1).1, dec_enc m1, m2]
    exact ⟨_, rfl⟩
  refine ⟨?_, flipX_byt hb1 k q (by unfold plc; omega)⟩
  rw [unpackR_ok (n := zs.length) (by have := h.len; omega) (by have := h.len; omega)]
  have e1 : unvs (flipX (flipX xs k p) k q) zs.length = zs.set k (-1) := by
    refine Eq.trans ?_ (Eq.trans (range_getD (zs.set k (-1))) rfl)
    rw [List.length_set]
    unfold unvs
    refine List.map_congr_left fun i hi' => ?_
    have hil : i < zs.length := by simpa using hi'
    rw [set_getD _ _ _ _ hk]
    unfold unv
    by_cases e : i = k
    · subst e; rw [hw, if_pos rfl]; rfl
    · obtain ⟨b, hb⟩ := ho i e hil
      rw [hb, if_pos rfl, if_neg e]
  have e2 : gaps (flipX (flipX xs k p) k q) zs.length = [(k : Int)] := by
    have hf : ∀ n, n ≤ zs.length → ((List.range n).filter (lostB (flipX (flipX xs k p) k q))) = if k < n then [k] else [] := by
      intro n hn
      induction n with
      | zero => simp
      | succ n ih =>
        rw [List.range_succ, List.filter_append, ih (by omega)]
        by_cases e : n = k
        · subst e
          have : lostB (flipX (flipX xs n p) n q) n = true := by unfold lostB; rw [hw]; decide
          simp [this]
        · have : lostB (flipX (flipX xs k p) k q) n = false := by
            obtain ⟨b, hb⟩ := ho n e (by omega)
            unfold lostB; rw [hb]; rfl
          by_cases g : k < n
          · rw [if_pos g, if_pos (by omega)]; simp [this]
          · rw [if_neg g, if_neg (by omega)]; simp [this]
    unfold gaps
    rw [hf _ (Nat.le_refl _), if_pos hk]; rfl
  rw [e1, e2]
end Go.Proofs.YtbpgbdnfoofnaaaDoor
