/-
  Stage 4: the program's readGroup.
-/
import Derived.Test.YtbpgbdnfoofnaaaDoorDRead
import Derived.Test.YtbpgbdnfoofnaaaDoorDSame
set_option linter.unusedSimpArgs false
set_option linter.unusedVariables false
namespace Go.Proofs.YtbpgbdnfoofnaaaDoor
open Go.RowKit

theorem infoPul : (Tryd.prog.info? 28).map (fun i => (i.zero, i.size, i.bytes)) = some (some (.agg #[.int .i64 0, .int .i64 0, .int .i64 0]), 3, 24) := by kernel_rfl
theorem infoIvl : (Tryd.prog.info? 52).map (fun i => (i.zero, i.size, i.bytes)) = some (some (.agg #[.int .i64 0, .int .i64 0]), 2, 16) := by kernel_rfl
/-- The slice v of pulses is the call's own. -/
def POwn (w : World) (base : Nat) (v : Value) (l : List Pul) : Prop := Flat 28 3 w base v l.length (flatP l)
theorem POwn.nil {w : World} {base : Nat} : POwn w base (.slice none 0 0) [] := Flat.nil
theorem POwn.drewN {w : World} {base : Nat} {v : Value} {l : List Pul} (h : POwn w base v l) (n : Nat) : POwn (w.drewN n) base v l := h
theorem POwn.alloc {w : World} {base : Nat} {v : Value} {l : List Pul} (h : POwn w base v l) (o : Obj) : POwn (w.alloc o) base v l := Flat.alloc h o
theorem POwn.below {w w' : World} {base : Nat} {v : Value} {l : List Pul} (h : POwn w base v l) (b : Below w.heap.size w w') : POwn w' base v l := Flat.below h b
theorem POwn.base {w : World} {base base' : Nat} {v : Value} {l : List Pul} (h : POwn w base v l) (hb : base' ≤ base) : POwn w base' v l := Flat.base h hb
theorem POwn.kept {w w' : World} {base : Nat} {v : Value} {l : List Pul} {row : Option Nat} (h : POwn w base v l) (hg : w.grownBy w' row) (hne : v.ownBlock = none ∨ v.ownBlock ≠ row) : POwn w' base v l := Flat.kept h hg hne
theorem POwn.block {w : World} {base : Nat} {v : Value} {l : List Pul} (h : POwn w base v l) {g : Nat} (hg : v.ownBlock = some g) : base ≤ g ∧ g < w.heap.size := Flat.block h hg
theorem POwn.app {w : World} {base n k : Nat} {v : Value} {l m : List Pul} (h : w.ownsRow base 28 3 v (n + k) ((flatP l).map (Value.int .i64) ++ (flatP m).map (Value.int .i64))) (hn : n = l.length) (hk : k = m.length) : POwn w base v (l ++ m) := by
  subst hn; subst hk
  unfold POwn
  rw [List.length_append, flatP_app]
  exact Flat.app h
theorem POwn.slice {w : World} {base : Nat} {v : Value} {l : List Pul} (h : POwn w base v l) :
    ∃ A c, v = .slice A l.length c ∧ PRow w A l ∧ l.length ≤ c ∧ (0 < l.length → ∃ g, A = some ⟨g, 0, none⟩ ∧ base ≤ g ∧ g < w.heap.size) := by
  obtain ⟨A, c, e, R, h1, h2, h3⟩ := Flat.slice h
  exact ⟨A, c, e, ⟨R, h2⟩, h1, h3⟩

theorem rdP_short (n : Nat) (t : Int) (v : List Int) (h : v.length < 2 * n) : rdP t n v = none := by
  induction n generalizing t v with
  | zero => omega
  | succ n ih =>
    match v, h with
    | [], _ => rfl
    | [_], _ => rfl
    | a :: d :: v, h =>
      show (if _ then _ else _) = _
      rw [ih (t + d) v (by simp only [List.length_cons] at h; omega)]
      split <;> rfl
theorem grp_short {vs : List Int} (h : vs.length < 4 + 2 * (vs.getD 0 0 - 1536).toNat) : grp vs = none := by
  match vs, h with
  | [], _ => rfl
  | [_], _ => rfl
  | [_, _], _ => rfl
  | [_, _, _], _ => rfl
  | m :: x :: y :: z :: v, h =>
    rw [grp_cons, rdP_short _ _ v (by simp only [List.length_cons] at h; have e : (m :: x :: y :: z :: v).getD 0 0 = m := rfl; rw [e] at h; omega)]
    split <;> rfl
theorem grp_nomark {vs : List Int} (h : mark (vs.getD 0 0) = false) : grp vs = none := by
  match vs, h with
  | [], _ => rfl
  | [_], _ => rfl
  | [_, _], _ => rfl
  | [_, _, _], _ => rfl
  | m :: x :: y :: z :: v, h =>
    have e : (m :: x :: y :: z :: v).getD 0 0 = m := rfl
    rw [e] at h
    rw [grp_cons, if_neg (fun g => by rw [h] at g; exact absurd g.1 (by decide))]
theorem grp_base {vs : List Int} (hm : mark (vs.getD 0 0) = true) (h4 : 4 ≤ vs.length) :
    grp vs = match bsF 0 ((vs.drop 1).take 3) with
      | some t => (rdP t (vs.getD 0 0 - 1536).toNat (vs.drop 4)).map fun l => (l, 4 + 2 * (vs.getD 0 0 - 1536).toNat)
      | none => none := by
  match vs, h4 with
  | m :: x :: y :: z :: v, _ =>
    have e : (m :: x :: y :: z :: v).getD 0 0 = m := rfl
    rw [e] at hm ⊢
    have e2 : ((m :: x :: y :: z :: v).drop 1).take 3 = [x, y, z] := rfl
    have e3 : (m :: x :: y :: z :: v).drop 4 = v := rfl
    rw [grp_cons, e2, e3]
    cases hx : small x with
    | false => rw [bsF_no hx, if_neg (by simp)]
    | true =>
      rw [bsF_yes hx]
      cases hy : small y with
      | false => rw [bsF_no hy, if_neg (by simp)]
      | true =>
        rw [bsF_yes hy]
        cases hz : small z with
        | false => rw [bsF_no hz, if_neg (by simp)]
        | true =>
          rw [bsF_yes hz, if_pos ⟨hm, rfl, rfl, rfl⟩]
          show _ = (rdP ((( 0 * 1024 + x) * 1024 + y) * 1024 + z) _ v).map _
          rw [show ((0 * 1024 + x) * 1024 + y) * 1024 + z = x * 1048576 + y * 1024 + z by omega]
theorem bsF_bd {vs : List Int} {t u : Int} (n : Nat) (h : bsF t vs = some u) (h1 : 0 ≤ t) (hn : vs.length ≤ n) (h2 : t < 1024 ^ (3 - n)) (h3 : n ≤ 3) : 0 ≤ u ∧ u < 1073741824 := by
  induction vs generalizing t n with
  | nil =>
    have : some t = some u := h
    injection this with this
    subst this
    have h4 : (1024 : Int) ^ (3 - n) ≤ 1024 ^ 3 := by
      have : (3 - n = 0 ∨ 3 - n = 1 ∨ 3 - n = 2 ∨ 3 - n = 3) := by omega
      rcases this with e | e | e | e <;> rw [e] <;> decide
    omega
  | cons v l ih =>
    cases hs : small v with
    | false => rw [bsF_no hs] at h; cases h
    | true =>
      rw [bsF_yes hs] at h
      have hv := of_decide_eq_true hs
      obtain ⟨m, rfl⟩ : ∃ m, n = m + 1 := ⟨n - 1, by simp only [List.length_cons] at hn; omega⟩
      refine ih m h (by omega) (by simp only [List.length_cons] at hn; omega) ?_ (by omega)
      have : m = 0 ∨ m = 1 ∨ m = 2 := by omega
      rcases this with rfl | rfl | rfl
      all_goals
        simp only [Nat.reduceAdd, Nat.reduceSub] at h2 ⊢
        omega
theorem rp_step {a d t : Int} {m : Nat} {v : List Int} {p : Pul} {b : Bool} (h : rpR a d t = (p, b)) (ht : 0 ≤ t) :
    (b = true → rdP t (m + 1) (a :: d :: v) = (rdP p.2.1 m v).map (p :: ·) ∧ okP p) ∧ (b = false → rdP t (m + 1) (a :: d :: v) = none) := by
  have e : rdP t (m + 1) (a :: d :: v) = if (1024 ≤ a ∧ a ≤ 1087) ∧ (0 ≤ d ∧ d ≤ 1023) ∧ t + d ≤ 1000000000 then (rdP (t + d) m v).map fun l => ((a - 1024) / 2, t + d, a % 2 * 2 - 1) :: l else none := rfl
  rw [e]
  unfold rpR at h
  by_cases g : 1024 ≤ a ∧ small d = true
  · rw [if_pos g] at h
    have hd := of_decide_eq_true g.2
    have hs : (if a % 2 = 1 then (1 : Int) else -1) = a % 2 * 2 - 1 := by split <;> omega
    rw [hs] at h
    injection h with h1 h2
    subst h1
    refine ⟨fun hb => ?_, fun hb => ?_⟩
    · rw [hb] at h2
      have ho := of_decide_eq_true h2
      have ho' : (0 ≤ (a - 1024) / 2 ∧ (a - 1024) / 2 ≤ 31) ∧ (0 ≤ t + d ∧ t + d ≤ 1000000000) ∧ _ := ho
      exact ⟨by rw [if_pos ⟨⟨g.1, by omega⟩, hd, ho'.2.1.2⟩], ho⟩
    · rw [hb] at h2
      have ho := of_decide_eq_false h2
      rw [if_neg]
      intro k
      refine ho ⟨⟨?_, ?_⟩, ⟨?_, k.2.2⟩, ?_⟩
      · show 0 ≤ (a - 1024) / 2; omega
      · show (a - 1024) / 2 ≤ 31; omega
      · show 0 ≤ t + d; omega
      · show a % 2 * 2 - 1 = 1 ∨ a % 2 * 2 - 1 = -1; omega
  · rw [if_neg g] at h
    injection h with h1 h2
    refine ⟨fun hb => ?_, fun _ => ?_⟩
    · rw [hb] at h2; cases h2
    · rw [if_neg]
      intro k
      exact g ⟨k.1.1, decide_eq_true k.2.1⟩
end Go.Proofs.YtbpgbdnfoofnaaaDoor
