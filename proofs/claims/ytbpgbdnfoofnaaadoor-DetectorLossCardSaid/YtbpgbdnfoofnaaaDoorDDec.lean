/-
  Stage 4: the program's Decode.
-/
import Derived.Test.YtbpgbdnfoofnaaaDoorDGrpW
import Derived.Test.YtbpgbdnfoofnaaaDoorHFlip
set_option linter.unusedSimpArgs false
set_option linter.unusedVariables false
namespace Go.Proofs.YtbpgbdnfoofnaaaDoor
open Go.RowKit

theorem gat_lt2 (w k : Nat) : gat w k < 2 ^ k := by
  induction k with
  | zero => show 0 < 1; decide
  | succ k ih =>
    show gat w k ||| bitN w (pl k) <<< k < 2 ^ (k + 1)
    refine Nat.or_lt_two_pow (Nat.lt_trans ih (Nat.pow_lt_pow_right (by decide) (by omega))) ?_
    rcases bitN_two w (pl k) with h | h <;> rw [h]
    · rw [Nat.zero_shiftLeft]; exact Nat.two_pow_pos _
    · rw [Nat.one_shiftLeft]; exact Nat.pow_lt_pow_right (by decide) (by omega)
theorem decR_bd {W a b : Int} (h : decR W = (a, b, 0)) : 0 ≤ a ∧ a ≤ 2047 := by
  unfold decR at h
  split at h
  · unfold decN at h
    have l1 := gat_lt2 (W.toNat ^^^ 1 <<< syn W.toNat 16) 11
    have l2 := gat_lt2 W.toNat 11
    split at h
    · injection h with h1 _
      omega
    · split at h
      · injection h with h1 _
        omega
      · injection h with _ h2
        injection h2 with _ h3
        cases h3
  · injection h with _ h2
    injection h2 with _ h3
    cases h3
theorem unpackR_bd (xs : List Int) : (∀ v ∈ (unpackR xs).1, -1 ≤ v ∧ v ≤ 2047) ∧ (unpackR xs).1.length ≤ 65536 := by
  unfold unpackR
  split
  · exact ⟨fun v hv => (by cases hv), by decide⟩
  · split
    · exact ⟨fun v hv => (by cases hv), by decide⟩
    · refine ⟨fun v hv => ?_, by show (unvs _ _).length ≤ _; rw [unvs_len]; omega⟩
      have hv' : v ∈ unvs xs (xs.length / 2) := hv
      unfold unvs at hv'
      obtain ⟨i, _, rfl⟩ := List.mem_map.1 hv'
      unfold unv
      obtain ⟨⟨a, b, er⟩, ht⟩ : ∃ t, decR (word xs i) = t := ⟨_, rfl⟩
      rw [ht]
      by_cases he : er = 0
      · subst he
        have := decR_bd ht
        rw [if_pos rfl]
        show -1 ≤ a ∧ a ≤ 2047
        omega
      · rw [if_neg he]; decide
theorem rdP_len {n : Nat} {t : Int} {v : List Int} {l : List Pul} (h : rdP t n v = some l) : l.length = n := by
  induction n generalizing t v l with
  | zero =>
    have : some [] = some l := h
    injection this with this
    subst this; rfl
  | succ n ih =>
    match v, h with
    | a :: d :: v, h =>
      have e : rdP t (n + 1) (a :: d :: v) = if (1024 ≤ a ∧ a ≤ 1087) ∧ (0 ≤ d ∧ d ≤ 1023) ∧ t + d ≤ 1000000000 then (rdP (t + d) n v).map fun l => ((a - 1024) / 2, t + d, a % 2 * 2 - 1) :: l else none := rfl
      rw [e] at h
      split at h
      · obtain ⟨m, hm, rfl⟩ := Option.map_eq_some_iff.1 h
        rw [List.length_cons, ih hm]
      · cases h
theorem grp_bd {vs : List Int} {l : List Pul} {n : Nat} (h : grp vs = some (l, n)) : 1 ≤ l.length ∧ l.length ≤ 8 ∧ n = 4 + 2 * l.length ∧ n ≤ vs.length := by
  have h4 : 4 ≤ vs.length := by
    match vs, h with
    | _ :: _ :: _ :: _ :: v, _ => simp only [List.length_cons]; omega
  have hs : ¬ vs.length < 4 + 2 * (vs.getD 0 0 - 1536).toNat := fun g => by rw [grp_short g] at h; cases h
  match vs, h4 with
  | m :: x :: y :: z :: v, _ =>
    have e : (m :: x :: y :: z :: v).getD 0 0 = m := rfl
    rw [e] at hs
    rw [grp_cons] at h
    split at h
    · next g =>
      obtain ⟨q, hq, e2⟩ := Option.map_eq_some_iff.1 h
      injection e2 with e3 e4
      subst e3
      have hl := rdP_len hq
      have hm := of_decide_eq_true g.1
      omega
    · cases h

/-- What Decode answers. -/
def decD (xs : List Int) : List Pul × List Ivl × Int :=
  if (unpackR xs).2.2 = 0 then (if 4096 < (decV (unpackR xs).1 0).1.length then ([], [], 3) else ((decV (unpackR xs).1 0).1, (decV (unpackR xs).1 0).2, 0)) else ([], [], (unpackR xs).2.2)
/-- The slice v of intervals is the call's own. -/
def IOwn (w : World) (base : Nat) (v : Value) (l : List Ivl) : Prop := Flat 52 2 w base v l.length (flatI l)
theorem IOwn.nil {w : World} {base : Nat} : IOwn w base (.slice none 0 0) [] := Flat.nil
theorem IOwn.drewN {w : World} {base : Nat} {v : Value} {l : List Ivl} (h : IOwn w base v l) (n : Nat) : IOwn (w.drewN n) base v l := h
theorem IOwn.alloc {w : World} {base : Nat} {v : Value} {l : List Ivl} (h : IOwn w base v l) (o : Obj) : IOwn (w.alloc o) base v l := Flat.alloc h o
theorem IOwn.below {w w' : World} {base : Nat} {v : Value} {l : List Ivl} (h : IOwn w base v l) (b : Below w.heap.size w w') : IOwn w' base v l := Flat.below h b
theorem IOwn.base {w : World} {base base' : Nat} {v : Value} {l : List Ivl} (h : IOwn w base v l) (hb : base' ≤ base) : IOwn w base' v l := Flat.base h hb
theorem IOwn.kept {w w' : World} {base : Nat} {v : Value} {l : List Ivl} {row : Option Nat} (h : IOwn w base v l) (hg : w.grownBy w' row) (hne : v.ownBlock = none ∨ v.ownBlock ≠ row) : IOwn w' base v l := Flat.kept h hg hne
theorem IOwn.block {w : World} {base : Nat} {v : Value} {l : List Ivl} (h : IOwn w base v l) {g : Nat} (hg : v.ownBlock = some g) : base ≤ g ∧ g < w.heap.size := Flat.block h hg
theorem IOwn.app {w : World} {base n k : Nat} {v : Value} {l m : List Ivl} (h : w.ownsRow base 52 2 v (n + k) ((flatI l).map (Value.int .i64) ++ (flatI m).map (Value.int .i64))) (hn : n = l.length) (hk : k = m.length) : IOwn w base v (l ++ m) := by
  subst hn; subst hk
  unfold IOwn
  rw [List.length_append, flatI_app]
  exact Flat.app h
theorem IOwn.slice {w : World} {base : Nat} {v : Value} {l : List Ivl} (h : IOwn w base v l) : ∃ A c, v = .slice A l.length c ∧ IvRow w A l := by
  obtain ⟨A, c, e, R, h1, h2, h3⟩ := Flat.slice h
  exact ⟨A, c, e, R, h2⟩
/-- Rows of different types never share a block. -/
theorem types_ne {w : World} {b b' m m' n n' : Nat} {e e' : TypeId} {v u : Value} {xs ys : List Value} (h : w.ownsRow b e m v n xs) (h' : w.ownsRow b' e' m' u n' ys) (hne : e ≠ e') : v.ownBlock = none ∨ v.ownBlock ≠ u.ownBlock := by
  rcases h.2 with ⟨rfl, _⟩ | ⟨g, cap, cur, rfl, _, hh, _⟩
  · exact Or.inl rfl
  · refine Or.inr fun heq => ?_
    rcases h'.2 with ⟨rfl, _⟩ | ⟨g', cap', cur', rfl, _, hh', _⟩
    · simp [Value.ownBlock] at heq
    · have : g = g' := by simpa [Value.ownBlock] using heq
      subst this
      rw [hh] at hh'
      injection hh' with hh'
      injection hh' with _ ht
      exact hne ht
theorem Row.news {k : IntKind} {w : World} {B : Nat} {ad : Addr} {zs : List Int} (h : Row k w B (some ad) zs) : ∀ j u, (zs.map (Value.int k))[j]? = some u → w.cell? (ad.add j) = some u := fun j u hj => by
  rw [List.getElem?_map] at hj
  obtain ⟨x, hx, rfl⟩ := Option.map_eq_some_iff.1 hj
  have hlt : j < zs.length := (List.getElem?_eq_some_iff.1 hx).1
  obtain ⟨ad', e, _, hc⟩ := h j hlt
  obtain rfl : ad = ad' := by injection e
  rw [hc, List.getD_eq_getElem?_getD, hx]; rfl
def DecPost (xs : List Int) (w : World) (e : Ending) (w' : World) : Prop :=
  ∃ v u, e = .returned (.tuple #[v, u, .int .i64 (decD xs).2.2]) ∧ POwn w' w.heap.size v (decD xs).1 ∧ IOwn w' w.heap.size u (decD xs).2.1 ∧ Below w.heap.size w w'
theorem DecPost.mk' {xs : List Int} {w w' : World} {e : Ending} {v u : Value} {l : List Pul} {g : List Ivl} {er : Int} (h : decD xs = (l, g, er)) (h1 : e = .returned (.tuple #[v, u, .int .i64 er])) (h2 : POwn w' w.heap.size v l) (h3 : IOwn w' w.heap.size u g) (h4 : Below w.heap.size w w') : DecPost xs w e w' := by
  refine ⟨v, u, ?_, ?_, ?_, h4⟩
  · rw [h]; exact h1
  · rw [h]; exact h2
  · rw [h]; exact h3
theorem decD_err {xs : List Int} (h : ¬ (unpackR xs).2.2 = 0) : decD xs = ([], [], (unpackR xs).2.2) := by unfold decD; rw [if_neg h]
theorem decD_big {xs vs : List Int} {a : List Int} (hu : unpackR xs = (vs, a, 0)) (h : 4096 < (decV vs 0).1.length) : decD xs = ([], [], 3) := by unfold decD; rw [hu, if_pos rfl, if_pos h]
theorem decD_ok {xs vs : List Int} {a : List Int} {l : List Pul} {g : List Ivl} (hu : unpackR xs = (vs, a, 0)) (hd : decV vs 0 = (l, g)) (h : ¬ 4096 < l.length) : decD xs = (l, g, 0) := by unfold decD; rw [hu, if_pos rfl, hd, if_neg h]
end Go.Proofs.YtbpgbdnfoofnaaaDoor
