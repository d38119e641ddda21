/-
  Stage 5, plain: borders, their first error, senses, effects, counts, sums.
-/
import Derived.Test.YtbnlaopmmgoalaaTri
set_option linter.unusedSimpArgs false
set_option linter.unusedVariables false
namespace Go.Proofs.Ytbnlaopmmgoalaa
open Go.RowKit

/-- Section, detector, sense. -/
def okB (b : Pul) : Prop := (0 ≤ b.1 ∧ b.1 ≤ 31) ∧ (0 ≤ b.2.1 ∧ b.2.1 ≤ 31) ∧ (b.2.2 = 1 ∨ b.2.2 = -1)
instance (b : Pul) : Decidable (okB b) := by unfold okB; infer_instance
/-- The sense of the first border at a place. -/
def sen : List Pul → Int → Int → Option Int
  | [], _, _ => none
  | b :: l, s, d => if b.1 = s ∧ b.2.1 = d then some b.2.2 else sen l s d
theorem sen_snoc (l : List Pul) (b : Pul) (s d : Int) : sen (l ++ [b]) s d = match sen l s d with | some z => some z | none => if b.1 = s ∧ b.2.1 = d then some b.2.2 else none := by
  induction l with
  | nil => rfl
  | cons a l ih =>
    show (if _ then _ else sen (l ++ [b]) s d) = _
    rw [ih]
    unfold sen
    by_cases h : a.1 = s ∧ a.2.1 = d
    · rw [if_pos h, if_pos h]
    · rw [if_neg h, if_neg h]
      cases l <;> rfl
/-- The first error of a list of borders, behind the borders p. -/
def bw (p : List Pul) : List Pul → Int
  | [] => 0
  | b :: l => if okB b then (if (sen p b.1 b.2.1).isSome then 8 else bw (p ++ [b]) l) else 1
def bordR (l : List Pul) : Int := if 64 < l.length then 3 else bw [] l
theorem bw_ok {p l : List Pul} {b : Pul} (h : okB b) (g : sen p b.1 b.2.1 = none) : bw p (b :: l) = bw (p ++ [b]) l := by
  show (if okB b then (if (sen p b.1 b.2.1).isSome then 8 else bw (p ++ [b]) l) else 1) = _
  rw [if_pos h, g]; rfl
theorem bw_dup {p l : List Pul} {b : Pul} {z : Int} (h : okB b) (g : sen p b.1 b.2.1 = some z) : bw p (b :: l) = 8 := by
  show (if okB b then (if (sen p b.1 b.2.1).isSome then 8 else bw (p ++ [b]) l) else 1) = _
  rw [if_pos h, g]; rfl
theorem bw_bad {p l : List Pul} {b : Pul} (h : ¬ okB b) : bw p (b :: l) = 1 := by
  show (if okB b then (if (sen p b.1 b.2.1).isSome then 8 else bw (p ++ [b]) l) else 1) = _
  rw [if_neg h]
/-- A valid list of borders: no place twice. -/
def Bor : List Pul → Prop
  | [] => True
  | b :: l => okB b ∧ sen l b.1 b.2.1 = none ∧ Bor l
theorem sen_none_app {p l : List Pul} {s d : Int} : sen (p ++ l) s d = none ↔ sen p s d = none ∧ sen l s d = none := by
  induction p with
  | nil => exact ⟨fun h => ⟨rfl, h⟩, fun h => h.2⟩
  | cons a p ih =>
    show (if _ then _ else sen (p ++ l) s d) = none ↔ (if _ then _ else sen p s d) = none ∧ _
    by_cases h : a.1 = s ∧ a.2.1 = d
    · rw [if_pos h, if_pos h]
      exact ⟨fun g => (by cases g), fun g => (by cases g.1)⟩
    · rw [if_neg h, if_neg h, ih]
theorem sen_one {b : Pul} {s d : Int} : sen [b] s d = none ↔ ¬ (b.1 = s ∧ b.2.1 = d) := by
  show (if b.1 = s ∧ b.2.1 = d then some b.2.2 else none) = none ↔ _
  by_cases h : b.1 = s ∧ b.2.1 = d
  · rw [if_pos h]; exact ⟨fun g => (by cases g), fun g => absurd h g⟩
  · rw [if_neg h]; exact ⟨fun _ => h, fun _ => rfl⟩
theorem bw_zero (p l : List Pul) : bw p l = 0 ↔ Bor l ∧ ∀ b ∈ l, sen p b.1 b.2.1 = none := by
  induction l generalizing p with
  | nil => exact ⟨fun _ => ⟨trivial, fun b hb => (by cases hb)⟩, fun _ => rfl⟩
  | cons b l ih =>
    by_cases h : okB b
    · cases g : sen p b.1 b.2.1 with
      | some z =>
        rw [bw_dup h g]
        exact ⟨fun k => (by cases k), fun k => (by have := k.2 b (List.mem_cons_self ..); rw [g] at this; cases this)⟩
      | none =>
        rw [bw_ok h g, ih]
        constructor
        · rintro ⟨k1, k2⟩
          refine ⟨⟨h, ?_, k1⟩, fun c hc => ?_⟩
          · cases e : sen l b.1 b.2.1 with
            | none => rfl
            | some z =>
              exfalso
              have : ∀ m : List Pul, (∀ c ∈ m, sen (p ++ [b]) c.1 c.2.1 = none) → sen m b.1 b.2.1 = none := by
                intro m
                induction m with
                | nil => intro _; rfl
                | cons a m im =>
                  intro hm
                  have ha := sen_none_app.1 (hm a (List.mem_cons_self ..))
                  have hb := sen_one.1 ha.2
                  show (if _ then _ else _) = none
                  rw [if_neg (fun e => hb ⟨e.1.symm, e.2.symm⟩)]
                  exact im fun c hc => hm c (List.mem_cons_of_mem _ hc)
              rw [this l k2] at e
              cases e
          · rcases List.mem_cons.1 hc with rfl | hc
            · exact g
            · exact (sen_none_app.1 (k2 c hc)).1
        · rintro ⟨⟨_, k1, k2⟩, k3⟩
          refine ⟨k2, fun c hc => sen_none_app.2 ⟨k3 c (List.mem_cons_of_mem _ hc), sen_one.2 fun e => ?_⟩⟩
          have : ∀ m : List Pul, c ∈ m → sen m c.1 c.2.1 ≠ none := by
            intro m
            induction m with
            | nil => intro h; cases h
            | cons a m im =>
              intro hm hn
              have hn' : (if a.1 = c.1 ∧ a.2.1 = c.2.1 then some a.2.2 else sen m c.1 c.2.1) = none := hn
              by_cases q : a.1 = c.1 ∧ a.2.1 = c.2.1
              · rw [if_pos q] at hn'; cases hn'
              · rw [if_neg q] at hn'
                rcases List.mem_cons.1 hm with e | hm
                · subst e; exact q ⟨rfl, rfl⟩
                · exact im hm hn'
          have t := this l hc
          rw [← e.1, ← e.2] at t
          exact t k1
    · rw [bw_bad h]
      exact ⟨fun k => (by cases k), fun k => absurd k.1.1 h⟩
theorem bord_zero {l : List Pul} (h : bordR l = 0) : Bor l ∧ l.length ≤ 64 := by
  unfold bordR at h
  by_cases g : 64 < l.length
  · rw [if_pos g] at h; cases h
  · rw [if_neg g] at h; exact ⟨((bw_zero [] l).1 h).1, by omega⟩
theorem bord_of {l : List Pul} (h : Bor l) (hl : l.length ≤ 64) : bordR l = 0 := by
  unfold bordR
  rw [if_neg (by omega)]
  exact (bw_zero [] l).2 ⟨h, fun _ _ => rfl⟩
theorem Bor.sense {l : List Pul} (h : Bor l) {s d z : Int} (g : sen l s d = some z) : z = 1 ∨ z = -1 := by
  induction l with
  | nil => cases g
  | cons b l ih =>
    have g' : (if b.1 = s ∧ b.2.1 = d then some b.2.2 else sen l s d) = some z := g
    by_cases q : b.1 = s ∧ b.2.1 = d
    · rw [if_pos q] at g'; injection g' with g'; subst g'; exact h.1.2.2
    · rw [if_neg q] at g'; exact ih h.2.2 g'
/-- The effect of a pulse on a section. -/
def eff (l : List Pul) (s : Int) (x : Pul) : Int := match sen l s x.1 with | some z => x.2.2 * z | none => 0
def effT (l : List Pul) (s r : Int) (x : Pul) : Int := if r < x.2.1 then eff l s x else 0
theorem eff_bd {l : List Pul} (h : Bor l) {x : Pul} (hx : okP x) (s : Int) : -1 ≤ eff l s x ∧ eff l s x ≤ 1 := by
  unfold eff
  cases g : sen l s x.1 with
  | none => exact ⟨(by show (-1 : Int) ≤ 0; decide), (by show (0 : Int) ≤ 1; decide)⟩
  | some z =>
    rcases h.sense g with rfl | rfl <;> rcases hx.2.2 with e | e <;> (show -1 ≤ x.2.2 * _ ∧ x.2.2 * _ ≤ 1) <;> rw [e] <;> decide
theorem effT_bd {l : List Pul} (h : Bor l) {x : Pul} (hx : okP x) (s r : Int) : -1 ≤ effT l s r x ∧ effT l s r x ≤ 1 := by
  unfold effT
  split
  · exact eff_bd h hx s
  · exact ⟨by decide, by decide⟩
/-- A sum over pulses. -/
def sum (f : Pul → Int) : List Pul → Int
  | [] => 0
  | x :: p => f x + sum f p
theorem sum_app (f : Pul → Int) (p q : List Pul) : sum f (p ++ q) = sum f p + sum f q := by
  induction p with
  | nil => show _ = 0 + _; rw [Int.zero_add]; rfl
  | cons x p ih => show f x + sum f (p ++ q) = f x + sum f p + _; rw [ih, Int.add_assoc]
theorem sum_bd {f : Pul → Int} {p : List Pul} (h : ∀ x ∈ p, -1 ≤ f x ∧ f x ≤ 1) : -(p.length : Int) ≤ sum f p ∧ sum f p ≤ p.length := by
  induction p with
  | nil => exact ⟨(by show -((0 : Nat) : Int) ≤ 0; omega), (by show (0 : Int) ≤ ((0 : Nat) : Int); omega)⟩
  | cons x p ih =>
    have := ih fun y hy => h y (List.mem_cons_of_mem _ hy)
    have := h x (List.mem_cons_self ..)
    show -((p.length + 1 : Nat) : Int) ≤ f x + sum f p ∧ f x + sum f p ≤ ((p.length + 1 : Nat) : Int)
    omega
theorem sum_congr {f g : Pul → Int} {p : List Pul} (h : ∀ x ∈ p, f x = g x) : sum f p = sum g p := by
  induction p with
  | nil => rfl
  | cons x p ih => show f x + _ = g x + _; rw [h x (List.mem_cons_self ..), ih fun y hy => h y (List.mem_cons_of_mem _ hy)]
/-- Was the sum negative behind any pulse? -/
def neg (f : Pul → Int) : Int → List Pul → Bool
  | _, [] => false
  | n, x :: p => decide (n + f x < 0) || neg f (n + f x) p
theorem neg_app (f : Pul → Int) (n : Int) (p q : List Pul) : neg f n (p ++ q) = (neg f n p || neg f (n + sum f p) q) := by
  induction p generalizing n with
  | nil => show neg f n q = (false || neg f (n + 0) q); rw [Int.add_zero, Bool.false_or]
  | cons x p ih => show (decide (n + f x < 0) || neg f (n + f x) (p ++ q)) = (decide (n + f x < 0) || neg f (n + f x) p || neg f (n + (f x + sum f p)) q); rw [ih, Bool.or_assoc, Int.add_assoc]
theorem neg_last (f : Pul → Int) (n : Int) (p : List Pul) (hn : 0 ≤ n) (h : n + sum f p < 0) : neg f n p = true := by
  induction p generalizing n with
  | nil => have : n + 0 < 0 := h; omega
  | cons x p ih =>
    show (decide (n + f x < 0) || neg f (n + f x) p) = true
    by_cases g : n + f x < 0
    · rw [decide_eq_true g]; rfl
    · rw [ih (n + f x) (by omega) (by have : n + (f x + sum f p) < 0 := h; omega), Bool.or_true]
def cntR (l p : List Pul) (s r : Int) : Int := sum (effT l s r) p
def disR (l p : List Pul) (s r : Int) : Bool := neg (effT l s r) 0 p
/-- The first error of the arguments. -/
def chkR (l p : List Pul) (s : Int) : Int := if bordR l = 0 then (if validR p = 0 then (if s < 0 ∨ 31 < s then 2 else 0) else validR p) else bordR l
def countR (l p : List Pul) (s r : Int) : Int × Int := if chkR l p s = 0 then (cntR l p s r, 0) else (0, chkR l p s)
def stateR (l p : List Pul) (s r : Int) : Int × Int := if chkR l p s = 0 then (if disR l p s r then (2, 0) else if 0 < cntR l p s r then (1, 0) else (0, 0)) else (0, chkR l p s)
/-- How many borders a detector has, and the sum of their senses. -/
def nb (d : Int) (b : Pul) : Int := if b.2.1 = d then 1 else 0
def sb (d : Int) (b : Pul) : Int := if b.2.1 = d then b.2.2 else 0
def thrOk (l : List Pul) (d : Int) : Prop := sum (nb d) l = 2 ∧ sum (sb d) l = 0
instance (l : List Pul) (d : Int) : Decidable (thrOk l d) := by unfold thrOk; infer_instance
/-- The detectors from 0 to below n that are through. -/
def thr (l : List Pul) : Nat → List Int
  | 0 => []
  | n + 1 => if thrOk l n then thr l n ++ [(n : Int)] else thr l n
theorem thr_len (l : List Pul) (n : Nat) : (thr l n).length ≤ n := by
  induction n with
  | zero => exact Nat.le_refl _
  | succ n ih =>
    unfold thr
    split
    · rw [List.length_append]; simp; exact ih
    · omega
def thrR (l : List Pul) : List Int × Int := if bordR l = 0 then (thr l 32, 0) else ([], bordR l)
/-- The balance. -/
def balx (l : List Pul) (x : Pul) : Int := x.2.2 * sum (sb x.1) l
def balR (l p : List Pul) : Int × Int := if chkR l p 0 = 0 then (sum (balx l) p, 0) else (0, chkR l p 0)
/-- The sum of the effects over the sections from 0 to below n. -/
def acc (l : List Pul) (x : Pul) : Nat → Int
  | 0 => 0
  | n + 1 => acc l x n + eff l n x
def sacc (l p : List Pul) : Nat → Int
  | 0 => 0
  | n + 1 => sacc l p n + sum (eff l n) p
theorem sacc_acc (l p : List Pul) (n : Nat) : sacc l p n = sum (fun x => acc l x n) p := by
  induction n with
  | zero =>
    have : ∀ p : List Pul, sum (fun x => acc l x 0) p = 0 := by
      intro p
      induction p with
      | nil => rfl
      | cons x p ih => show 0 + sum _ p = 0; rw [ih]; rfl
    rw [this]; rfl
  | succ n ih =>
    show sacc l p n + sum (eff l n) p = _
    rw [ih]
    clear ih
    induction p with
    | nil => rfl
    | cons x p ih2 =>
      show acc l x n + sum (fun x => acc l x n) p + (eff l n x + sum (eff l n) p) = (acc l x n + eff l n x) + sum (fun x => acc l x (n + 1)) p
      rw [← ih2]; omega
theorem eff_cons (b : Pul) (l : List Pul) (x : Pul) (s : Int) (h : sen l b.1 b.2.1 = none) : eff (b :: l) s x = (if b.1 = s ∧ b.2.1 = x.1 then x.2.2 * b.2.2 else 0) + eff l s x := by
  unfold eff
  have e : sen (b :: l) s x.1 = if b.1 = s ∧ b.2.1 = x.1 then some b.2.2 else sen l s x.1 := rfl
  rw [e]
  by_cases g : b.1 = s ∧ b.2.1 = x.1
  · rw [if_pos g, if_pos g, ← g.1, ← g.2, h]
    show x.2.2 * b.2.2 = _ + 0
    rw [Int.add_zero]
  · rw [if_neg g, if_neg g, Int.zero_add]
theorem acc_cons (b : Pul) (l : List Pul) (x : Pul) (n : Nat) (h : sen l b.1 b.2.1 = none) (h0 : 0 ≤ b.1) : acc (b :: l) x n = (if b.1 < n ∧ b.2.1 = x.1 then x.2.2 * b.2.2 else 0) + acc l x n := by
  induction n with
  | zero =>
    rw [if_neg (by omega)]; rfl
  | succ n ih =>
    show acc (b :: l) x n + eff (b :: l) n x = _ + (acc l x n + eff l n x)
    rw [ih, eff_cons b l x n h]
    by_cases g : b.2.1 = x.1
    · by_cases g1 : b.1 = n
      · rw [if_neg (by omega), if_pos ⟨g1, g⟩, if_pos ⟨by omega, g⟩]; omega
      · by_cases g2 : b.1 < n
        · rw [if_pos ⟨g2, g⟩, if_neg (by omega), if_pos ⟨by omega, g⟩]; omega
        · rw [if_neg (by omega), if_neg (by omega), if_neg (by omega)]; omega
    · rw [if_neg (fun k => g k.2), if_neg (fun k => g k.2), if_neg (fun k => g k.2)]; omega
theorem acc_all {l : List Pul} (h : Bor l) (x : Pul) : acc l x 32 = balx l x := by
  unfold balx
  induction l with
  | nil =>
    show acc [] x 32 = x.2.2 * 0
    rw [Int.mul_zero]
    have : ∀ n, acc [] x n = 0 := by
      intro n
      induction n with
      | zero => rfl
      | succ n ih => show acc [] x n + 0 = 0; rw [ih]; rfl
    exact this 32
  | cons b l ih =>
    rw [acc_cons b l x 32 h.2.1 h.1.1.1, ih h.2.2]
    show _ = x.2.2 * (sb x.1 b + sum (sb x.1) l)
    rw [Int.mul_add]
    congr 1
    unfold sb
    by_cases g : b.2.1 = x.1
    · have := h.1.1.2
      rw [if_pos ⟨by omega, g⟩, if_pos g]
    · rw [if_neg (fun k => g k.2), if_neg g, Int.mul_zero]
theorem bal_sacc {l p : List Pul} (h : Bor l) : sacc l p 32 = sum (balx l) p := by
  rw [sacc_acc]
  exact sum_congr fun x _ => acc_all h x
theorem run_app {t : Int} {p q : List Pul} (h : run t (p ++ q)) : run t p := by
  induction p generalizing t with
  | nil => trivial
  | cons x p ih => exact ⟨h.1, h.2.1, ih h.2.2⟩
theorem run_mem {t : Int} {p : List Pul} (h : run t p) : ∀ x ∈ p, okP x := by
  induction p generalizing t with
  | nil => intro x hx; cases hx
  | cons y p ih =>
    intro x hx
    rcases List.mem_cons.1 hx with rfl | hx
    · exact h.1
    · exact ih h.2.2 x hx
theorem run_less {t t' : Int} {p : List Pul} (h : run t p) (ht : t' ≤ t) : run t' p := by
  cases p with
  | nil => trivial
  | cons x p => exact ⟨h.1, Int.le_trans ht h.2.1, h.2.2⟩
theorem run_drop {t : Int} {p q : List Pul} (ht : 0 ≤ t) (h : run t (p ++ q)) : run 0 q := by
  induction p generalizing t with
  | nil => exact run_less h ht
  | cons x p ih => exact ih (Int.le_trans ht h.2.1) h.2.2
theorem valid_zero {p : List Pul} (h : validR p = 0) : run 0 p ∧ p.length ≤ 4096 := by
  unfold validR at h
  by_cases g : 4096 < p.length
  · rw [if_pos g] at h; cases h
  · rw [if_neg g] at h; exact ⟨(vw_run 0 p).1 h, by omega⟩
theorem valid_of {p : List Pul} (h : run 0 p) (hl : p.length ≤ 4096) : validR p = 0 := by
  unfold validR
  rw [if_neg (by omega)]
  exact (vw_run 0 p).2 h
end Go.Proofs.Ytbnlaopmmgoalaa
