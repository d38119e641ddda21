/-
  Stage 14: items of round 0; the least codes have each of their bits.
-/
import Derived.Test.YtkopbnppjhdbgaaZB
import Derived.Test.YtkopbnppjhdbgaaYThm
set_option linter.unusedSimpArgs false
set_option linter.unusedVariables false
namespace Go.Proofs.Ytkopbnppjhdbgaa
open Go.RowKit Go.Lib

theorem vw_zero {l : List It} (h : ∀ p ∈ l, okI p ∧ p.2.2.1 = 0) : vwI 0 l = 0 := by
  induction l with
  | nil => rfl
  | cons p l ih =>
    obtain ⟨h1, h2⟩ := h p (List.mem_cons_self ..)
    show (if okI p then (if p.2.2.1 < 0 then 12 else vwI p.2.2.1 l) else 2) = 0
    rw [if_pos h1, if_neg (by omega), h2]
    exact ih (fun q hq => h q (List.mem_cons_of_mem _ hq))
/-- An item of round 0; the items of which the first k are of round 0. -/
def zI (p : It) : It := (p.1, p.2.1, 0, p.2.2.2)
def zrK (l : List It) (k : Nat) : List It := (l.take k).map zI ++ l.drop k
theorem zrK_zero (l : List It) : zrK l 0 = l := by unfold zrK; simp
theorem zrK_all (l : List It) : zrK l l.length = l.map zI := by unfold zrK; simp
theorem zrK_len (l : List It) (k : Nat) : (zrK l k).length = l.length := by
  unfold zrK; rw [List.length_append, List.length_map, List.length_take, List.length_drop]; omega
theorem zrK_at (l : List It) {k : Nat} (hk : k < l.length) : (zrK l k).getD k it0 = l.getD k it0 := by
  unfold zrK
  have e : ((l.take k).map zI).length = k := by rw [List.length_map, List.length_take]; omega
  rw [List.getD_eq_getElem?_getD, List.getElem?_append_right (by omega), e, Nat.sub_self, List.getElem?_drop, Nat.add_zero, ← List.getD_eq_getElem?_getD]
theorem zrK_succ (l : List It) {k : Nat} (hk : k < l.length) : (zrK l k).set k (zI (l.getD k it0)) = zrK l (k + 1) := by
  unfold zrK
  have e : ((l.take k).map zI).length = k := by rw [List.length_map, List.length_take]; omega
  rw [List.set_append_right _ _ (by omega), e, Nat.sub_self, drop_at hk, List.set_cons_zero, List.take_succ_eq_append_getElem hk, List.map_append, List.append_assoc, List.getD_eq_getElem?_getD, List.getElem?_eq_getElem hk]
  rfl
theorem flatI_setR (l : List It) : ∀ (k : Nat), k < l.length → (flatI l).set (k * 4 + 2) 0 = flatI (l.set k (zI (l.getD k it0))) := by
  induction l with
  | nil => intro k hk; cases hk
  | cons p l ih =>
    intro k hk
    cases k with
    | zero => rfl
    | succ k =>
      have := ih k (by simp at hk; omega)
      rw [show (k + 1) * 4 + 2 = (k * 4 + 2) + 1 + 1 + 1 + 1 by omega]
      show p.1 :: p.2.1 :: p.2.2.1 :: p.2.2.2 :: (flatI l).set (k * 4 + 2) 0 = _
      rw [this]; rfl
theorem z_valid {l : List It} {wt : Int} (h : validR l wt = 0) : validR (l.map zI) wt = 0 := by
  obtain ⟨h1, h2, _⟩ := valid_ok h
  have hw := (formOk_of h).wb
  unfold validR
  rw [List.length_map, if_neg (by omega), if_pos (btw_iff.2 hw)]
  refine vw_zero (fun p hp => ?_)
  obtain ⟨q, hq, rfl⟩ := List.mem_map.1 hp
  obtain ⟨⟨a1, a2⟩, ⟨b1, b2⟩, ⟨c1, c2⟩, ⟨d1, d2⟩⟩ := h2 q hq
  exact ⟨⟨⟨a1, a2⟩, ⟨b1, b2⟩, ⟨by show (0 : Int) ≤ 0; omega, by show (0 : Int) ≤ 12; omega⟩, ⟨d1, d2⟩⟩, rfl⟩
theorem z_rnd {l : List It} (y : Nat) (hy : y < (l.map zI).length) : rnd (l.map zI) y = 0 := by
  rw [List.length_map] at hy
  unfold rnd
  simp [List.getD_eq_getElem?_getD, hy, zI]
/-- What holds while the rounds are cleared. -/
structure ZSt (w wr : World) (b : Nat) (A : Option Addr) (c : Nat) (l : List It) (wt : Int) : Prop where
  box : JBox wr b A l.length c wt
  own : IOwn 29 wr (w.heap.size + 1) (.slice A l.length c) l
  lo : ∀ g, (Value.slice A l.length c).ownBlock = some g → g < b
  bel : Below w.heap.size w wr
  lt : w.heap.size < b
theorem ZSt.below {w wr w' : World} {b c : Nat} {A : Option Addr} {l : List It} {wt : Int} (h : ZSt w wr b A c l wt) (k : Below wr.heap.size wr w') : ZSt w w' b A c l wt :=
  ⟨h.box.below k h.box.lt, h.own.below k, h.lo, h.bel.trans (k.mono h.bel.size), h.lt⟩
def lnB (x : Nat) : Bool := decide (x < 2 ^ ln x) && (x == 0 || decide (2 ^ (ln x - 1) ≤ x))
set_option maxRecDepth 100000 in
theorem lnB_all : allT lnB 12 0 = true := by decide +kernel
theorem ln_bd {x : Nat} (h : x < 4096) : x < 2 ^ ln x ∧ (x ≠ 0 → 2 ^ (ln x - 1) ≤ x) := by
  have e := allT_all lnB_all h
  unfold lnB at e
  simp only [Bool.and_eq_true, decide_eq_true_eq, Bool.or_eq_true, beq_iff_eq] at e
  exact ⟨e.1, fun g => e.2.resolve_left g⟩
theorem pc_pow {b : Nat} (hb : b < 12) : pc (2 ^ b) = 1 := by
  have := pc_high (b := b) (t := 0) hb (Nat.two_pow_pos b)
  rw [Nat.add_zero, pc_zero] at this
  exact this
/-- A code of round 0 that is not 0 has a weight. -/
theorem isC_wt {V K : Nat} (h : isC 0 V K = true) (h0 : K ≠ 0) : 1 ≤ V := by
  rcases Nat.eq_zero_or_pos V with e | e
  · exfalso
    subst e
    have hk := (isC_iff.1 h).1
    obtain ⟨l1, l2⟩ := ln_bd hk
    have l2 := l2 h0
    have hl := ln_le K
    have hp : ln K ≠ 0 := fun e => by rw [e] at l1; omega
    have e2 : 2 ^ ln K = 2 ^ (ln K - 1) + 2 ^ (ln K - 1) := by
      rw [show ln K = (ln K - 1) + 1 by omega, Nat.pow_succ, Nat.add_sub_cancel]; omega
    have := isC_none (r := 0) (b := ln K - 1) (t := K - 2 ^ (ln K - 1)) (Nat.zero_le _) (by omega) (by omega)
    rw [show 2 ^ (ln K - 1) + (K - 2 ^ (ln K - 1)) = K by omega, h] at this
    cases this
  · exact e
theorem isC_pow {V b : Nat} (hV : 1 ≤ V) (hb : b < 12) : isC 0 V (2 ^ b) = true :=
  isC_iff.2 ⟨by have := pow_le12 hb; omega, by rw [Nat.pow_zero]; omega, by rw [Nat.pow_zero, Nat.div_one, pc_pow hb]; exact hV⟩
/-- The least codes fit their job. -/
theorem sol_pl {l : List It} {wt st : Int} {bs v : List Int} (hv : validR l wt = 0) (h : Sol l wt bs v) (hs : StepsOf v st) : ∃ S : Nat, st = (S : Int) ∧ Pl l wt S v := by
  have hf := formOk_of hv
  have hp := h.plan hf
  have hb := fun y => (h.bound hf y).1
  have key : ∀ S : Nat, S ≤ 12 → (∀ y, y < l.length → v.getD y 0 < ((2 ^ S : Nat) : Int)) → Pl l wt S v := fun S hS hlt => by
    refine ⟨hv, fitB_iff.2 ⟨by omega, h.vlen, fun y hy => ?_⟩⟩
    unfold okC
    have e : (2 : Int) ^ ((S : Int)).toNat = ((2 ^ S : Nat) : Int) := by simp
    rw [e, decide_eq_true (hlt y hy)]
    obtain ⟨K, hK, hc⟩ := hp.code y hy
    obtain ⟨R, hR⟩ := Int.eq_ofNat_of_zero_le (hf.rb y hy).1
    obtain ⟨V, hV⟩ := Int.eq_ofNat_of_zero_le hf.wb.1
    rw [hR, hV] at hc
    rw [hK, hR, hV, isZ_nat (by have := (hf.rb y hy).2; omega) (by have := hf.wb.2; omega)]
    exact hc
  rcases hs with ⟨e, rfl⟩ | ⟨M, hM, rfl⟩
  · refine ⟨0, rfl, key 0 (Nat.zero_le _) (fun y hy => ?_)⟩
    rw [← h.vlen, e] at hy; cases hy
  · obtain ⟨x, hx, hxM⟩ := hM.hit
    have hMb := hb x
    rw [hxM] at hMb
    obtain ⟨m, rfl⟩ := Int.eq_ofNat_of_zero_le hMb.1
    have hl := ln_bd (x := m) (by omega)
    refine ⟨ln m, by rw [Int.toNat_natCast], key (ln m) (ln_le m) (fun y hy => ?_)⟩
    have h1 := hM.le y (by rw [h.vlen]; exact hy)
    have h2 := hl.1
    omega
/-- Where all rounds are 0, each bit below the steps is set in some code. -/
theorem sol_bits {l : List It} {wt : Int} {bs v : List Int} (hv : validR l wt = 0) (hr : ∀ y, y < l.length → rnd l y = 0) (h : Sol l wt bs v) {m : Nat} (hM : TopV v v.length (m : Int)) {b : Nat} (hb : b < ln m) : ∃ x, x < l.length ∧ bitN (cdN v x) b = true := by
  have hf := formOk_of hv
  have hp := h.plan hf
  have hbd := h.bound hf
  obtain ⟨x0, hx0, hxM⟩ := hM.hit
  rw [h.vlen] at hx0
  have hm : m < 4096 := by have := (hbd x0).1.2; omega
  have hl := ln_bd hm
  have hm0 : m ≠ 0 := fun e => by subst e; rw [ln_zero] at hb; omega
  have hl2 := hl.2 hm0
  have hl12 := ln_le m
  have hb2 : 2 ^ b ≤ m := Nat.le_trans (Nat.pow_le_pow_right (by decide) (show b ≤ ln m - 1 by omega)) hl2
  obtain ⟨V, hV⟩ := Int.eq_ofNat_of_zero_le hf.wb.1
  obtain ⟨K0, hK0, hc0⟩ := hp.code x0 hx0
  rw [hr x0 hx0, hV] at hc0
  have hKm : K0 = m := by rw [hxM] at hK0; omega
  subst hKm
  have hV1 : 1 ≤ V := isC_wt hc0 hm0
  have hV12 : V ≤ 12 := by have := hf.wb.2; omega
  have hpow := isC_pow (V := V) (b := b) hV1 (by omega)
  have hP1 := Nat.two_pow_pos b
  obtain ⟨P, hP⟩ : ∃ P, P = 2 ^ b := ⟨_, rfl⟩
  rw [← hP] at hb2 hpow hP1
  have HP := Lib.hid hP
  clear hP hl2 hl
  have key : ∀ (n : Nat) y, y < l.length → blk l y < (n : Int) → (P : Int) ≤ v.getD y 0 → ∃ x, x < l.length ∧ v.getD x 0 = (P : Int) := by
    intro n
    induction n with
    | zero => intro y hy hn; have := (hf.blk y hy).1; omega
    | succ n ih =>
      intro y hy hn hge
      by_cases e : v.getD y 0 = (P : Int)
      · exact ⟨y, hy, e⟩
      · have hbase := h.base y hy
        have hcode := h.code y hy
        rw [hr y hy, hV] at hcode
        have hgt : (P : Int) < bs.getD y 0 := by
          rcases Int.lt_or_le (P : Int) (bs.getD y 0) with g | g
          · exact g
          · obtain ⟨j, hj, hjk⟩ := next_code_le (K := P) (wt := (V : Int)) hbase.pos (show (0 : Int) ≤ 0 ∧ (0 : Int) ≤ 12 by omega) (by omega) g hpow
            rw [hcode] at hj
            injection hj with hj
            omega
        rcases hbase.hit with e0 | ⟨x, hx, ex⟩
        · omega
        · have hrel : rel l x y ≠ 0 := fun g => by
            have := via_zero (v := v) g
            have ex' : via l v x y = bs.getD y 0 := ex
            omega
          have ex' : via l v x y = bs.getD y 0 := ex
          rw [via_pos hrel] at ex'
          have h3 := rel_cases l x y
          have h4 := (rel_pos hrel).2
          exact ih x hx (by omega) (by omega)
  obtain ⟨x, hx, ex⟩ := key 32 x0 hx0 (by have := (hf.blk x0 hx0).2; omega) (by rw [hxM]; omega)
  refine ⟨x, hx, ?_⟩
  have e : cdN v x = 2 ^ b := by unfold cdN; rw [ex, ← HP.out]; exact Int.toNat_natCast _
  rw [e]
  unfold bitN
  rw [Nat.div_self (Nat.two_pow_pos b)]; rfl
/-- Pushes of the least codes of a job of one round. -/
theorem push_least {l : List It} {wt st : Int} {bs v : List Int} (hv : validR l wt = 0) (hr : ∀ y, y < l.length → rnd l y = 0) (h : Sol l wt bs v) (hs : StepsOf v st) :
    val14 l wt st v = 0 ∧ ∃ S : Nat, st = (S : Int) ∧ S ≤ 12 ∧ ((l.length = 0 ∧ pushZ l wt st v = (0, 0)) ∨ (0 < l.length ∧ pushZ l wt st v = ((S : Int) + 1, 0))) := by
  obtain ⟨S, rfl, hpl⟩ := sol_pl hv h hs
  have h0 := hpl.val14
  have hf := hpl.fitN
  have hz : pushZ l wt (S : Int) v = ((mP S l.length (cdN v) (rdN l) (S + 1) : Int), 0) := by unfold pushZ; rw [if_pos h0]; rfl
  have hrd : ∀ y, y < l.length → rdN l y = 0 := fun y hy => by unfold rdN; rw [hr y hy]; rfl
  refine ⟨h0, S, rfl, hpl.s12, ?_⟩
  rcases Nat.eq_zero_or_pos l.length with e | e
  · refine Or.inl ⟨e, ?_⟩
    rw [hz, (mP_none e (S + 1)).1]; rfl
  · refine Or.inr ⟨e, ?_⟩
    have hq : mP S l.length (cdN v) (rdN l) (S + 1) = S + 1 := mP_eq (S + 1) (fun t ht => by
      cases t with
      | zero => exact q_some hf (Nat.zero_le _) (x := 0) e (Or.inl (hrd 0 e))
      | succ t =>
        have hts : t < S := by omega
        rcases hs with ⟨e1, e2⟩ | ⟨M, hM, e2⟩
        · omega
        · have hMb : 0 ≤ M := by
            obtain ⟨x, hx, hxM⟩ := hM.hit
            have := (h.bound (formOk_of hv) x).1.1
            omega
          obtain ⟨m, rfl⟩ := Int.eq_ofNat_of_zero_le hMb
          rw [Int.toNat_natCast] at e2
          have e3 : S = ln m := by omega
          obtain ⟨x, hx, hxb⟩ := sol_bits hv hr h hM (b := t) (by omega)
          refine q_some hf (by omega) hx (Or.inr ⟨by rw [hrd x hx]; omega, ?_⟩)
          rw [Nat.add_sub_cancel]; exact hxb)
    rw [hz, hq]
    show (((S + 1 : Nat) : Int), (0 : Int)) = _
    rw [Int.natCast_add]; rfl
end Go.Proofs.Ytkopbnppjhdbgaa
