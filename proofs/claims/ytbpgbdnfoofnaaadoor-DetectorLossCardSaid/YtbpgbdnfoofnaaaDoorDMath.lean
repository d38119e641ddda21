/-
  Stage 4, plain: pulses, the values of their groups, and what is read of values.
-/
import Derived.Test.YtbpgbdnfoofnaaaDoorRows
set_option linter.unusedSimpArgs false
set_option linter.unusedVariables false
namespace Go.Proofs.YtbpgbdnfoofnaaaDoor

/-- Detector, time, direction. -/
abbrev Pul := Int × Int × Int
def okP (p : Pul) : Prop := (0 ≤ p.1 ∧ p.1 ≤ 31) ∧ (0 ≤ p.2.1 ∧ p.2.1 ≤ 1000000000) ∧ (p.2.2 = 1 ∨ p.2.2 = -1)
instance (p : Pul) : Decidable (okP p) := by unfold okP; infer_instance
/-- A valid list, behind a time. -/
def run (t : Int) : List Pul → Prop
  | [] => True
  | p :: l => okP p ∧ t ≤ p.2.1 ∧ run p.2.1 l
/-- How many of the pulses that follow belong to the group: c of them at most. -/
def more (t : Int) : Nat → List Pul → Nat
  | 0, _ => 0
  | _ + 1, [] => 0
  | c + 1, p :: l => if p.2.1 - t ≤ 1023 then more p.2.1 c l + 1 else 0
theorem more_le (t : Int) (c : Nat) (l : List Pul) : more t c l ≤ c ∧ more t c l ≤ l.length := by
  induction c generalizing t l with
  | zero => exact ⟨Nat.le_refl _, Nat.zero_le _⟩
  | succ c ih =>
    cases l with
    | nil => exact ⟨Nat.zero_le _, Nat.le_refl _⟩
    | cons p l =>
      unfold more
      have := ih p.2.1 l
      split
      · rw [List.length_cons]; omega
      · omega
/-- The values of pulses, behind a time. -/
def pv (t : Int) : List Pul → List Int
  | [] => []
  | p :: l => (1024 + 2 * p.1 + if p.2.2 = 1 then 1 else 0) :: (p.2.1 - t) :: pv p.2.1 l
theorem pv_len (t : Int) (l : List Pul) : (pv t l).length = 2 * l.length := by
  induction l generalizing t with
  | nil => rfl
  | cons p l ih => unfold pv; rw [List.length_cons, List.length_cons, ih, List.length_cons]; omega
/-- Mark and base. -/
def hd (n : Nat) (t : Int) : List Int := [1536 + (n : Int), t / 1048576, t / 1024 % 1024, t % 1024]
/-- The length of the first group; the values of all groups. -/
def glen : List Pul → Nat
  | [] => 0
  | p :: l => 1 + more p.2.1 7 l
def tim : List Pul → Int
  | [] => 0
  | p :: _ => p.2.1
def valsF : Nat → List Pul → List Int
  | 0, _ => []
  | f + 1, l => if l = [] then [] else hd (glen l) (tim l) ++ pv (tim l) (l.take (glen l)) ++ valsF f (l.drop (glen l))
def valuesR (l : List Pul) : List Int := valsF l.length l
theorem glen_bd {l : List Pul} (h : l ≠ []) : 1 ≤ glen l ∧ glen l ≤ 8 ∧ glen l ≤ l.length := by
  cases l with
  | nil => exact absurd rfl h
  | cons p l =>
    have := more_le p.2.1 7 l
    show 1 ≤ 1 + more p.2.1 7 l ∧ 1 + more p.2.1 7 l ≤ 8 ∧ 1 + more p.2.1 7 l ≤ l.length + 1
    omega
theorem valsF_more (f g : Nat) (l : List Pul) (hf : l.length ≤ f) (hg : l.length ≤ g) : valsF f l = valsF g l := by
  induction f generalizing g l with
  | zero =>
    have : l = [] := List.length_eq_zero_iff.1 (by omega)
    subst this
    cases g with
    | zero => rfl
    | succ g => unfold valsF; rw [if_pos rfl]
  | succ f ih =>
    by_cases h : l = []
    · subst h
      cases g with
      | zero => unfold valsF; rw [if_pos rfl]
      | succ g => unfold valsF; rw [if_pos rfl, if_pos rfl]
    · cases g with
      | zero => exact absurd (List.length_eq_zero_iff.1 (by omega)) h
      | succ g =>
        have hb := glen_bd h
        unfold valsF
        rw [if_neg h, if_neg h, ih g (l.drop (glen l)) (by rw [List.length_drop]; omega) (by rw [List.length_drop]; omega)]
theorem values_nil : valuesR [] = [] := rfl
theorem values_step {l : List Pul} (h : l ≠ []) : valuesR l = hd (glen l) (tim l) ++ pv (tim l) (l.take (glen l)) ++ valuesR (l.drop (glen l)) := by
  have hb := glen_bd h
  have hl : ∃ f, l.length = f + 1 := ⟨l.length - 1, by omega⟩
  obtain ⟨f, hf⟩ := hl
  have e : valuesR l = valsF (f + 1) l := by unfold valuesR; rw [hf]
  rw [e]
  unfold valsF
  rw [if_neg h]
  unfold valuesR
  rw [valsF_more f (l.drop (glen l)).length (l.drop (glen l)) (by rw [List.length_drop]; omega) (Nat.le_refl _)]

/-- What is read of the values of n pulses. -/
def rdP (t : Int) : Nat → List Int → Option (List Pul)
  | 0, _ => some []
  | n + 1, a :: d :: v => if (1024 ≤ a ∧ a ≤ 1087) ∧ (0 ≤ d ∧ d ≤ 1023) ∧ t + d ≤ 1000000000 then (rdP (t + d) n v).map fun l => ((a - 1024) / 2, t + d, a % 2 * 2 - 1) :: l else none
  | _ + 1, _ => none
def mark (v : Int) : Bool := decide (1537 ≤ v ∧ v ≤ 1544)
def small (v : Int) : Bool := decide (0 ≤ v ∧ v ≤ 1023)
/-- The group at the head of values, and its length. -/
def grp : List Int → Option (List Pul × Nat)
  | m :: x :: y :: z :: v => if mark m = true ∧ small x = true ∧ small y = true ∧ small z = true then (rdP (x * 1048576 + y * 1024 + z) (m - 1536).toNat v).map fun l => (l, 4 + 2 * (m - 1536).toNat) else none
  | _ => none
theorem grp_cons (m x y z : Int) (v : List Int) : grp (m :: x :: y :: z :: v) = if mark m = true ∧ small x = true ∧ small y = true ∧ small z = true then (rdP (x * 1048576 + y * 1024 + z) (m - 1536).toNat v).map fun l => (l, 4 + 2 * (m - 1536).toNat) else none := rfl
/-- How many values are passed over behind the first one. -/
def pass : List Int → Nat
  | [] => 0
  | a :: v => if mark a = true then 0 else pass v + 1
/-- Pulses and gaps of values, of which the first has the index i. -/
def decF : Nat → List Int → Nat → List Pul × List (Int × Int)
  | 0, _, _ => ([], [])
  | f + 1, v, i =>
    if v = [] then ([], [])
    else match grp v with
      | some (l, n) => (l ++ (decF f (v.drop n) (i + n)).1, (decF f (v.drop n) (i + n)).2)
      | none => ((decF f (v.drop (1 + pass v.tail)) (i + (1 + pass v.tail))).1, ((i : Int), (i : Int) + pass v.tail) :: (decF f (v.drop (1 + pass v.tail)) (i + (1 + pass v.tail))).2)
def decV (v : List Int) (i : Nat) : List Pul × List (Int × Int) := decF v.length v i

theorem grp_len {v : List Int} {l : List Pul} {n : Nat} (h : grp v = some (l, n)) : 4 ≤ n := by
  unfold grp at h
  split at h
  · split at h
    · obtain ⟨x, _, hx⟩ := Option.map_eq_some_iff.1 h
      injection hx with _ h2
      omega
    · cases h
  · cases h
theorem decF_more (f g : Nat) (v : List Int) (i : Nat) (hf : v.length ≤ f) (hg : v.length ≤ g) : decF f v i = decF g v i := by
  induction f generalizing g v i with
  | zero =>
    have : v = [] := List.length_eq_zero_iff.1 (by omega)
    subst this
    cases g with
    | zero => rfl
    | succ g => unfold decF; rw [if_pos rfl]
  | succ f ih =>
    by_cases h : v = []
    · subst h
      cases g with
      | zero => unfold decF; rw [if_pos rfl]
      | succ g => unfold decF; rw [if_pos rfl, if_pos rfl]
    · have hl : 0 < v.length := List.length_pos_iff.2 h
      cases g with
      | zero => omega
      | succ g =>
        unfold decF
        rw [if_neg h, if_neg h]
        cases e : grp v with
        | none => simp only []; rw [ih g (v.drop (1 + pass v.tail)) _ (by rw [List.length_drop]; omega) (by rw [List.length_drop]; omega)]
        | some r =>
          obtain ⟨l, n⟩ := r
          have := grp_len e
          simp only []
          rw [ih g (v.drop n) _ (by rw [List.length_drop]; omega) (by rw [List.length_drop]; omega)]
theorem decV_nil (i : Nat) : decV [] i = ([], []) := rfl
theorem decV_some {v : List Int} {l : List Pul} {n : Nat} (h : grp v = some (l, n)) (i : Nat) : decV v i = (l ++ (decV (v.drop n) (i + n)).1, (decV (v.drop n) (i + n)).2) := by
  have hn := grp_len h
  have hv : v ≠ [] := fun e => by subst e; cases h
  obtain ⟨f, hf⟩ : ∃ f, v.length = f + 1 := ⟨v.length - 1, by have := List.length_pos_iff.2 hv; omega⟩
  unfold decV
  rw [hf]
  conv => lhs; unfold decF
  rw [if_neg hv, h]
  simp only []
  rw [decF_more f (v.drop n).length (v.drop n) (i + n) (by rw [List.length_drop]; omega) (Nat.le_refl _)]
theorem decV_none {v : List Int} (hv : v ≠ []) (h : grp v = none) (i : Nat) :
    decV v i = ((decV (v.drop (1 + pass v.tail)) (i + (1 + pass v.tail))).1, ((i : Int), (i : Int) + pass v.tail) :: (decV (v.drop (1 + pass v.tail)) (i + (1 + pass v.tail))).2) := by
  obtain ⟨f, hf⟩ : ∃ f, v.length = f + 1 := ⟨v.length - 1, by have := List.length_pos_iff.2 hv; omega⟩
  unfold decV
  rw [hf]
  conv => lhs; unfold decF
  rw [if_neg hv, h]
  simp only []
  rw [decF_more f (v.drop (1 + pass v.tail)).length (v.drop (1 + pass v.tail)) _ (by rw [List.length_drop]; omega) (Nat.le_refl _)]

/-- Pulses of one group, behind a time. -/
def gap1 (t : Int) : List Pul → Prop
  | [] => True
  | p :: l => okP p ∧ (t ≤ p.2.1 ∧ p.2.1 - t ≤ 1023) ∧ gap1 p.2.1 l
theorem rdP_pv (t : Int) (l : List Pul) (h : gap1 t l) (rest : List Int) : rdP t l.length (pv t l ++ rest) = some l := by
  induction l generalizing t with
  | nil => rfl
  | cons p l ih =>
    obtain ⟨ok, ht, hl⟩ := h
    obtain ⟨d, tt, s⟩ := p
    unfold okP at ok
    simp only at ok ht hl
    rw [List.length_cons]
    unfold pv
    simp only [List.cons_append]
    unfold rdP
    have e2 : t + (tt - t) = tt := by omega
    rw [e2, ih tt hl]
    rcases ok.2.2 with hs | hs
    · rw [if_pos hs, if_pos ⟨by omega, by omega, by omega⟩, Option.map_some]
      rw [show (1024 + 2 * d + 1 - 1024) / 2 = d by omega, show (1024 + 2 * d + 1) % 2 * 2 - 1 = s by omega]
    · rw [if_neg (show ¬ s = 1 by omega), if_pos ⟨by omega, by omega, by omega⟩, Option.map_some]
      rw [show (1024 + 2 * d + 0 - 1024) / 2 = d by omega, show (1024 + 2 * d + 0) % 2 * 2 - 1 = s by omega]
theorem gap1_more (t : Int) (c : Nat) (l : List Pul) (h : run t l) : gap1 t (l.take (more t c l)) := by
  induction c generalizing t l with
  | zero => rw [show more t 0 l = 0 from rfl, List.take_zero]; trivial
  | succ c ih =>
    cases l with
    | nil => rw [List.take_nil]; trivial
    | cons p l =>
      obtain ⟨h1, h2, h3⟩ := h
      unfold more
      split
      · next g => rw [List.take_succ_cons]; exact ⟨h1, ⟨h2, g⟩, ih _ _ h3⟩
      · rw [List.take_zero]; trivial
theorem run_drop (t : Int) (l : List Pul) (h : run t l) (n : Nat) (hn : 0 < n) : ∃ u, run u (l.drop n) := by
  induction n generalizing t l with
  | zero => omega
  | succ n ih =>
    cases l with
    | nil => exact ⟨0, by rw [List.drop_nil]; trivial⟩
    | cons p l =>
      rw [List.drop_succ_cons]
      cases n with
      | zero => exact ⟨_, h.2.2⟩
      | succ n => exact ih _ _ h.2.2 (by omega)
theorem grp_hd {l : List Pul} {t : Int} (h : run t l) (hl : l ≠ []) (rest : List Int) :
    grp (hd (glen l) (tim l) ++ pv (tim l) (l.take (glen l)) ++ rest) = some (l.take (glen l), 4 + 2 * glen l) := by
  have hb := glen_bd hl
  cases l with
  | nil => exact absurd rfl hl
  | cons p l =>
    obtain ⟨h1, h2, h3⟩ := h
    have hg : gap1 (tim (p :: l)) ((p :: l).take (glen (p :: l))) := by
      show gap1 p.2.1 ((p :: l).take (1 + more p.2.1 7 l))
      rw [Nat.add_comm, List.take_succ_cons]
      exact ⟨h1, ⟨Int.le_refl _, by omega⟩, gap1_more _ _ _ h3⟩
    have ht : tim (p :: l) = p.2.1 := rfl
    obtain ⟨n, hn⟩ : ∃ n, n = glen (p :: l) := ⟨_, rfl⟩
    rw [← hn] at hb hg ⊢
    unfold hd
    simp only [List.cons_append, List.nil_append]
    rw [grp_cons]
    have b1 : okP p := h1
    unfold okP at b1
    rw [ht] at hg ⊢
    have e1 : mark (1536 + (n : Int)) = true := decide_eq_true (by omega)
    have e2 : small (p.2.1 / 1048576) = true := decide_eq_true (by omega)
    have e3 : small (p.2.1 / 1024 % 1024) = true := decide_eq_true (by omega)
    have e4 : small (p.2.1 % 1024) = true := decide_eq_true (by omega)
    rw [if_pos ⟨e1, e2, e3, e4⟩]
    rw [show p.2.1 / 1048576 * 1048576 + p.2.1 / 1024 % 1024 * 1024 + p.2.1 % 1024 = p.2.1 by omega, show (1536 + (n : Int) - 1536).toNat = n by omega]
    have hlen : ((p :: l).take n).length = n := by rw [List.length_take]; omega
    have := rdP_pv p.2.1 ((p :: l).take n) hg rest
    rw [hlen] at this
    rw [this]; rfl
/-- The values of a valid list are read as they were, whatever follows. -/
theorem decV_values (m : Nat) (l : List Pul) (hm : l.length ≤ m) (t : Int) (h : run t l) (rest : List Int) (i : Nat) :
    decV (valuesR l ++ rest) i = (l ++ (decV rest (i + (valuesR l).length)).1, (decV rest (i + (valuesR l).length)).2) := by
  induction m generalizing l t i with
  | zero =>
    have : l = [] := List.length_eq_zero_iff.1 (by omega)
    subst this
    rfl
  | succ m ih =>
    by_cases hl : l = []
    · subst hl; rfl
    · have hb := glen_bd hl
      obtain ⟨u, hu⟩ := run_drop t l h (glen l) (by omega)
      have e := values_step hl
      have hg := grp_hd h hl (valuesR (l.drop (glen l)) ++ rest)
      rw [← List.append_assoc, ← e] at hg
      have hlen : (hd (glen l) (tim l) ++ pv (tim l) (l.take (glen l))).length = 4 + 2 * glen l := by
        rw [List.length_append, pv_len, List.length_take]; simp [hd]; omega
      have hdrop : (valuesR l ++ rest).drop (4 + 2 * glen l) = valuesR (l.drop (glen l)) ++ rest := by
        rw [e, List.append_assoc, ← hlen, List.drop_left]
      have hvl : (valuesR l).length = 4 + 2 * glen l + (valuesR (l.drop (glen l))).length := by rw [e, List.length_append, hlen]
      rw [decV_some hg, hdrop, ih (l.drop (glen l)) (by rw [List.length_drop]; omega) u hu]
      rw [hvl, ← List.append_assoc, List.take_append_drop, Nat.add_assoc]
end Go.Proofs.YtbpgbdnfoofnaaaDoor
