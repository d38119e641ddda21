/-
  Stage 13, plain: jobs of one round: the least codes are the codes whose indexes are the levels.
-/
import Derived.Test.YtcplanafcnnodaaYLawA
import Derived.Test.YtcplanafcnnodaaKNth
set_option linter.unusedSimpArgs false
set_option linter.unusedVariables false
namespace Go.Proofs.Ytcplanafcnnodaa
open Go.RowKit

/-- v are the levels of l. (Where no item needs a level that is not there.) -/
theorem cnt_mono_code {r w a b : Nat} (h : a < b) (hc : isC r w a = true) : cnt r w a + 1 ≤ cnt r w b := cnt_lt h hc
/-- Levels and codes of round 0. -/
theorem sol_levels {l : List It} {wt : Int} {lv : List Int} (hf : FormOk l wt) (h0 : ∀ y, y < l.length → rnd l y = 0) (hl : Lev l lv) :
    (∀ bs v, Sol l wt bs v → ∀ y, y < l.length → (lv.getD y 0).toNat < cnt 0 wt.toNat 4096 ∧ v.getD y 0 = (nth 0 wt.toNat (lv.getD y 0).toNat : Int)) ∧
    ((∀ y, y < l.length → (lv.getD y 0).toNat < cnt 0 wt.toNat 4096) → ∃ bs v, Sol l wt bs v) := by
  have hlb := hl.bound hf.blk
  -- the codes of the levels are a plan
  have hplan : ∀ u : List Int, (∀ y, y < l.length → ∃ K : Nat, u.getD y 0 = K ∧ isC 0 wt.toNat K = true ∧ cnt 0 wt.toNat K = (lv.getD y 0).toNat) → Plan l wt u := fun u hu => by
    refine ⟨fun y hy => ?_, fun x y hx hy => ?_⟩
    · obtain ⟨K, h1, h2, h3⟩ := hu y hy
      exact ⟨K, h1, by rw [h0 y hy, Int.toNat_zero]; exact h2⟩
    · obtain ⟨K, h1, h2, h3⟩ := hu y hy
      obtain ⟨J, g1, g2, g3⟩ := hu x hx
      by_cases e : rel l x y = 0
      · rw [via_zero e]; omega
      · have hv : via l lv x y ≤ lv.getD y 0 := (hl.max y hy).le x hx
        rw [via_pos e] at hv ⊢
        have b1 := hlb x hx
        have b2 := hlb y hy
        rcases rel_cases l x y with c | c | c
        · exact absurd c e
        · rw [c] at hv ⊢
          rcases Nat.lt_or_ge K J with g | g
          · have := cnt_lt g h2; omega
          · omega
        · rw [c] at hv ⊢
          rcases Nat.lt_or_ge J K with g | g
          · omega
          · rcases Nat.eq_or_lt_of_le g with g | g
            · subst g; omega
            · have := cnt_lt g h2; omega
  refine ⟨fun bs v hs => ?_, fun hc => ?_⟩
  · -- the indexes of the codes satisfy what the levels satisfy
    have hp := hs.plan hf
    have hge : ∀ (n : Nat) (y : Nat), y < l.length → blk l y < n → lv.getD y 0 ≤ (cnt 0 wt.toNat (v.getD y 0).toNat : Int) := by
      intro n
      induction n with
      | zero => intro y hy hn; have := (hf.blk y hy).1; omega
      | succ n ih =>
        intro y hy hn
        rcases (hl.max y hy).hit with e | ⟨x, hx, e⟩
        · omega
        · have e' : via l lv x y = lv.getD y 0 := e
          by_cases g : rel l x y = 0
          · rw [via_zero g] at e'; omega
          · have h1 := ih x hx (by have := (rel_pos g).2; omega)
            have h2 := hp.sort x y hx hy
            rw [via_pos g] at e' h2
            obtain ⟨J, g1, g2⟩ := hp.code x hx
            obtain ⟨K, k1, k2⟩ := hp.code y hy
            rw [h0 x hx, Int.toNat_zero] at g2
            rw [h0 y hy, Int.toNat_zero] at k2
            rw [g1] at h1 h2
            rw [k1] at h2 ⊢
            rw [Int.toNat_natCast] at h1 ⊢
            rcases rel_cases l x y with c | c | c
            · exact absurd c g
            · rw [c] at h2 e'
              have := cnt_le (r := 0) (w := wt.toNat) (show J ≤ K by omega); omega
            · rw [c] at h2 e'
              have := cnt_lt (show J < K by omega) g2; omega
    have hlt : ∀ y, y < l.length → (lv.getD y 0).toNat < cnt 0 wt.toNat 4096 := fun y hy => by
      have h1 := hge 32 y hy (by have := (hf.blk y hy).2; omega)
      obtain ⟨K, k1, k2⟩ := hp.code y hy
      rw [h0 y hy, Int.toNat_zero] at k2
      rw [k1, Int.toNat_natCast] at h1
      have := cnt_lt (isC_iff.1 k2).1 k2
      omega
    intro y hy
    refine ⟨hlt y hy, ?_⟩
    -- the codes of the levels, as a list
    obtain ⟨u, hu1, hu2⟩ : ∃ u : List Int, u.length = l.length ∧ ∀ y, y < l.length → u.getD y 0 = (nth 0 wt.toNat (lv.getD y 0).toNat : Int) :=
      ⟨(List.range l.length).map (fun y => (nth 0 wt.toNat (lv.getD y 0).toNat : Int)), by simp, fun y hy => by simp [List.getD_eq_getElem?_getD, hy]⟩
    have hu : ∀ y, y < l.length → ∃ K : Nat, u.getD y 0 = K ∧ isC 0 wt.toNat K = true ∧ cnt 0 wt.toNat K = (lv.getD y 0).toNat := fun y hy => by
      rcases nth_is 0 wt.toNat (lv.getD y 0).toNat with ⟨_, n2, n3, n4⟩ | ⟨n1, _⟩
      · exact ⟨_, hu2 y hy, n3, n4⟩
      · have := hlt y hy; omega
    have hle := (hs.least hf (hplan u hu) y hy).2
    obtain ⟨K, h1, h2, h3⟩ := hu y hy
    obtain ⟨J, k1, k2⟩ := hp.code y hy
    rw [h0 y hy, Int.toNat_zero] at k2
    have h4 := hge 32 y hy (by have := (hf.blk y hy).2; omega)
    rw [k1, Int.toNat_natCast] at h4
    rw [← hu2 y hy]
    have hnn := hlb y hy
    rcases Nat.lt_or_ge J K with g | g
    · have := cnt_lt (show J < K from g) k2; omega
    · omega
  · obtain ⟨u, hu1, hu2⟩ : ∃ u : List Int, u.length = l.length ∧ ∀ y, y < l.length → u.getD y 0 = (nth 0 wt.toNat (lv.getD y 0).toNat : Int) :=
      ⟨(List.range l.length).map (fun y => (nth 0 wt.toNat (lv.getD y 0).toNat : Int)), by simp, fun y hy => by simp [List.getD_eq_getElem?_getD, hy]⟩
    refine sol_ex hf (hplan u fun y hy => ?_)
    rcases nth_is 0 wt.toNat (lv.getD y 0).toNat with ⟨_, n2, n3, n4⟩ | ⟨n1, _⟩
    · exact ⟨_, hu2 y hy, n3, n4⟩
    · have := hc y hy; omega
/-- Items in the reverse order of their blocks. -/
def revL (n k : Nat) : List It := (List.range k).map fun (x : Nat) => (0, (n : Int) - 1 - (x : Int), 0, 100)
theorem revL_len (n k : Nat) : (revL n k).length = k := by unfold revL; simp
theorem revL_succ (n k : Nat) : revL n (k + 1) = revL n k ++ [(0, (n : Int) - 1 - k, 0, 100)] := by
  unfold revL; rw [List.range_succ, List.map_append]; rfl
theorem revL_at (n k : Nat) {x : Nat} (h : x < k) : (revL n k).getD x it0 = (0, (n : Int) - 1 - x, 0, 100) := by
  unfold revL; simp [List.getD_eq_getElem?_getD, h]
theorem vw_zero {l : List It} (h : ∀ p ∈ l, okI p ∧ p.2.2.1 = 0) : vwI 0 l = 0 := by
  induction l with
  | nil => rfl
  | cons p l ih =>
    obtain ⟨h1, h2⟩ := h p (List.mem_cons_self ..)
    show (if okI p then (if p.2.2.1 < 0 then 12 else vwI p.2.2.1 l) else 2) = 0
    rw [if_pos h1, if_neg (by omega), h2]
    exact ih (fun q hq => h q (List.mem_cons_of_mem _ hq))
theorem rev_valid {n : Nat} (hn : n ≤ 32) {wt : Int} (hw : 0 ≤ wt ∧ wt ≤ 12) : validR (revL n n) wt = 0 := by
  unfold validR
  rw [revL_len, if_neg (by omega), if_pos (btw_iff.2 hw)]
  refine vw_zero (fun p hp => ?_)
  unfold revL at hp
  obtain ⟨x, hx, rfl⟩ := List.mem_map.1 hp
  have := List.mem_range.1 hx
  refine ⟨?_, rfl⟩
  show (0 ≤ (0 : Int) ∧ (0 : Int) ≤ 15) ∧ (0 ≤ (n : Int) - 1 - x ∧ (n : Int) - 1 - x ≤ 31) ∧ (0 ≤ (0 : Int) ∧ (0 : Int) ≤ 12) ∧ (1 ≤ (100 : Int) ∧ (100 : Int) ≤ 400)
  omega
theorem rev_rel (n : Nat) {x y : Nat} (hx : x < n) (hy : y < n) : rel (revL n n) x y = if x ≤ y then 0 else 2 := by
  have e1 : trn (revL n n) x = 0 := by unfold trn; rw [revL_at n n hx]
  have e2 : trn (revL n n) y = 0 := by unfold trn; rw [revL_at n n hy]
  have e3 : blk (revL n n) x = (n : Int) - 1 - x := by unfold blk; rw [revL_at n n hx]
  have e4 : blk (revL n n) y = (n : Int) - 1 - y := by unfold blk; rw [revL_at n n hy]
  unfold rel
  rw [e1, e2, e3, e4]
  by_cases h : x ≤ y
  · rw [if_pos (Or.inr (by omega)), if_pos h]
  · rw [if_neg (by omega), if_neg h, if_pos (by omega)]
def revV (n : Nat) : List Int := (List.range n).map fun (x : Nat) => (n : Int) - 1 - (x : Int)
theorem revV_at (n : Nat) {x : Nat} (h : x < n) : (revV n).getD x 0 = (n : Int) - 1 - x := by
  unfold revV; simp [List.getD_eq_getElem?_getD, h]
theorem rev_lev (n : Nat) : Lev (revL n n) (revV n) := by
  refine ⟨by rw [revL_len]; unfold revV; simp, fun y hy => ?_⟩
  rw [revL_len] at hy ⊢
  rw [revV_at n hy]
  refine ⟨by omega, fun x hx => ?_, ?_⟩
  · show via (revL n n) (revV n) x y ≤ _
    have e := rev_rel n hx hy
    by_cases h : x ≤ y
    · rw [if_pos h] at e
      rw [via_zero e]; omega
    · rw [if_neg h] at e
      rw [via_pos (by omega), e, revV_at n hx]; omega
  · by_cases h : y + 1 < n
    · refine Or.inr ⟨y + 1, h, ?_⟩
      have e := rev_rel n h hy
      rw [if_neg (by omega)] at e
      show via (revL n n) (revV n) (y + 1) y = _
      rw [via_pos (by omega), e, revV_at n h]; omega
    · exact Or.inl (by omega)
set_option maxRecDepth 100000 in
theorem nth_one : (List.range 13).all (fun i => ln (nth 0 1 i) == i) = true := by decide +kernel
set_option maxRecDepth 100000 in
theorem cnt_one : cnt 0 1 4096 = 13 := by rw [show (4096 : Nat) = 2 ^ 12 from rfl, cnt_at (by decide) (by decide) (by decide)]; decide +kernel
theorem nth_zero (w : Nat) : nth 0 w 0 = 0 := nth_hit (isC_first (r := 0) (w := w) (by decide)) rfl
/-- What Least answers for these jobs. -/
theorem rev_least {n : Nat} (hn : 1 ≤ n ∧ n ≤ 32) {wt st er : Int} {v : List Int} (hw : 0 ≤ wt ∧ wt ≤ 12) (h : LeastR (revL n n) wt st v er) :
    (cnt 0 wt.toNat 4096 < n ∧ er = 15 ∧ ∀ bs' v', ¬ Sol (revL n n) wt bs' v') ∨ (n ≤ cnt 0 wt.toNat 4096 ∧ er = 0 ∧ v.length = n ∧ v.getD (n - 1) 0 = 0 ∧ (wt = 1 → st = (n : Int) - 1)) := by
  have hv := rev_valid hn.2 hw
  have hf := formOk_of hv
  have h0 : ∀ y, y < (revL n n).length → rnd (revL n n) y = 0 := fun y hy => by
    rw [revL_len] at hy
    unfold rnd; rw [revL_at n n hy]
  obtain ⟨s1, s2⟩ := sol_levels hf h0 (rev_lev n)
  rw [revL_len] at s1 s2
  rcases h.valid hv with ⟨rfl, _, _, hno⟩ | ⟨rfl, bs, hs, hst⟩
  · refine Or.inl ⟨?_, rfl, hno⟩
    rcases Nat.lt_or_ge (cnt 0 wt.toNat 4096) n with g | g
    · exact g
    · obtain ⟨b', v', h'⟩ := s2 (fun y hy => by rw [revV_at n hy]; omega)
      exact absurd h' (hno _ _)
  · have hvl : v.length = n := by rw [hs.vlen, revL_len]
    have hA := s1 bs v hs
    have h1 := (hA 0 (by omega)).1
    rw [revV_at n (by omega)] at h1
    have h2 := (hA (n - 1) (by omega)).2
    rw [revV_at n (by omega), show ((n : Int) - 1 - ((n - 1 : Nat) : Int)).toNat = 0 by omega, nth_zero] at h2
    refine Or.inr ⟨by omega, rfl, hvl, h2, fun hw1 => ?_⟩
    subst hw1
    have hn13 : n ≤ 13 := by
      rw [show (1 : Int).toNat = 1 from rfl, cnt_one] at h1; omega
    have hT : TopV v v.length (nth 0 1 (n - 1) : Int) := by
      rw [hvl]
      refine ⟨fun x hx => ?_, 0, by omega, ?_⟩
      · have := (hA x hx).2
        rw [this, revV_at n hx]
        rcases nth_is 0 1 (n - 1) with ⟨a1, a2, a3, a4⟩ | ⟨a1, _⟩
        · rcases nth_is 0 1 ((n : Int) - 1 - x).toNat with ⟨c1, c2, c3, c4⟩ | ⟨c1, _⟩
          · rcases Nat.lt_or_ge (nth 0 1 (n - 1)) (nth 0 1 ((n : Int) - 1 - x).toNat) with g | g
            · have := cnt_lt g a3; omega
            · show ((nth 0 (1 : Int).toNat ((n : Int) - 1 - x).toNat : Nat) : Int) ≤ _
              rw [show (1 : Int).toNat = 1 from rfl]; omega
          · rw [cnt_one] at c1; omega
        · rw [cnt_one] at a1; omega
      · have := (hA 0 (by omega)).2
        rw [this, revV_at n (by omega), show ((n : Int) - 1 - ((0 : Nat) : Int)).toNat = n - 1 by omega]; rfl
    rcases hst with ⟨e, _⟩ | ⟨M, hM, rfl⟩
    · rw [e] at hvl; simp at hvl; omega
    · rw [hM.uniq hT, Int.toNat_natCast]
      have := List.all_eq_true.1 nth_one (n - 1) (List.mem_range.2 (by omega))
      rw [beq_iff_eq] at this
      rw [this]; omega
end Go.Proofs.Ytcplanafcnnodaa
