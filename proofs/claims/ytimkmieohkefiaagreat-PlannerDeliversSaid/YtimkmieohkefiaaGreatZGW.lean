/-
  Stage 17: what PlannerDelivers needs: what stands on a track (plain), lists of lists joined.
-/
import Derived.Test.YtimkmieohkefiaaGreatBA5
set_option linter.unusedSimpArgs false
set_option linter.unusedVariables false
namespace Go.Proofs.YtimkmieohkefiaaGreat
open Go.RowKit Go.Lib

/-- The lengths of some items. -/
def sumW (l : List It) (p : List Nat) : Nat := (p.map (lnN l)).sum
theorem sumW_succ {l : List It} {p : List Nat} {k x : Nat} (h : p[k]? = some x) : sumW l (p.take (k + 1)) = sumW l (p.take k) + lnN l x := by
  unfold sumW
  rw [List.take_add_one, h, List.map_append, List.sum_append]; simp
theorem sumW_le {l : List It} {p : List Nat} (k : Nat) : sumW l (p.take k) ≤ sumW l p := by
  have h := List.take_append_drop k p
  have h2 : sumW l p = sumW l (p.take k) + sumW l (p.drop k) := by
    unfold sumW
    rw [← List.sum_append, ← List.map_append, h]
  omega
theorem sum_nodup {g f : Nat → Nat} : ∀ (L : Nat) (p : List Nat), p.Nodup → (∀ x ∈ p, x < L ∧ g x ≤ f x) → (p.map g).sum ≤ sumN f L := by
  intro L
  induction L with
  | zero =>
    intro p _ h
    cases p with
    | nil => simp
    | cons a q => exact absurd (h a (by simp)).1 (Nat.not_lt_zero _)
  | succ L ih =>
    intro p hn h
    show _ ≤ sumN f L + f L
    by_cases hm : L ∈ p
    · have hp := List.perm_cons_erase hm
      have hs : (p.map g).sum = ((L :: p.erase L).map g).sum := (hp.map g).sum_nat
      rw [List.map_cons, List.sum_cons] at hs
      have := ih (p.erase L) (hn.erase L) fun x hx => by
        have hx2 := (List.Nodup.mem_erase_iff hn).1 hx
        have := h x hx2.2
        exact ⟨by have := this.1; have := hx2.1; omega, this.2⟩
      have := (h L hm).2
      omega
    · have := ih p hn fun x hx => by
        have := h x hx
        refine ⟨?_, this.2⟩
        rcases Nat.lt_or_ge x L with g | g
        · exact g
        · exact absurd (show x = L by have := this.1; omega) (fun e => hm (e ▸ hx))
      omega
/-- What stands on a track, or on a train's track, at a time. -/
def atT (l : List It) (S : Nat) (v : List Int) (n : Nat) : List (List Nat) := mS S l.length (cdN v) (rdN l) (n + 1) ++ mT S l.length (tnT l) (cdN v) (rdN l) (tnN l) (n + 1)
theorem atT_len (l : List It) (S : Nat) (v : List Int) (n : Nat) : (atT l S v n).length = S + tnT l := by
  unfold atT; rw [List.length_append, mS_len, mT_len]
theorem atT_ok {l : List It} {wt : Int} {S : Nat} {v : List Int} (h : Pl l wt S v) {n k : Nat} {p : List Nat} (hn : n ≤ S) (hk : (atT l S v n)[k]? = some p) :
    (∀ x ∈ p, x < l.length) ∧ p.length ≤ l.length ∧ sumW l p ≤ (ldN S (tnT l) (cdN v) (rdN l) (tnN l) (lnN l) l.length).getD k 0 := by
  have hS := h.s12
  have hkl : k < S + tnT l := by rw [← atT_len l S v n]; exact (List.getElem?_eq_some_iff.1 hk).1
  rw [ldN_at S (tnT l) (cdN v) (rdN l) (tnN l) (lnN l) k hkl l.length]
  have key : p.Nodup ∧ ∀ x ∈ p, x < l.length ∧ lnN l x ≤ addX S (cdN v) (rdN l) (tnN l) (lnN l) k x := by
    by_cases hb : k < S
    · have e : p = (mS S l.length (cdN v) (rdN l) (n + 1)).getD k [] := by
        unfold atT at hk
        rw [List.getElem?_append_left (by rw [mS_len]; exact hb)] at hk
        rw [List.getD_eq_getElem?_getD, hk]; rfl
      have O := onS_all h.fitN (n + 1) (by omega) k hb
      rw [← e] at O
      refine ⟨ltN_nodup O.asc, fun x hx => ?_⟩
      obtain ⟨h1, h2, h3⟩ := (O.mem x).1 hx
      rw [Nat.add_sub_cancel] at h3
      have hd := dst_spec (K := cdN v x) hn
      have hg := (dst_bd (K := cdN v x) hn).1
      rw [h3] at hd hg
      have hm : k ∈ blM (cdN v x) (rdN l x) 12 := (blM_mem 12 k).2 ⟨by omega, by omega, hd.1 hb⟩
      refine ⟨h1, ?_⟩
      unfold addX
      have hc : 1 ≤ (blM (cdN v x) (rdN l x) 12).count k := List.count_pos_iff.2 hm
      have := Nat.mul_le_mul_left (lnN l x) hc
      omega
    · have hb2 : k - S < tnT l := by omega
      have e : p = (mT S l.length (tnT l) (cdN v) (rdN l) (tnN l) (n + 1)).getD (k - S) [] := by
        unfold atT at hk
        rw [List.getElem?_append_right (by rw [mS_len]; omega), mS_len] at hk
        rw [List.getD_eq_getElem?_getD, hk]; rfl
      have O := onT_all h.fitN (n + 1) (by omega) (k - S) hb2
      rw [← e] at O
      refine ⟨ltN_nodup O.asc, fun x hx => ?_⟩
      obtain ⟨h1, h2, h3, h4⟩ := (O.mem x).1 hx
      refine ⟨h1, ?_⟩
      unfold addX
      rw [if_pos (show k = S + tnN l x by omega)]
      omega
  refine ⟨fun x hx => (key.2 x hx).1, ?_, sum_nodup _ _ key.1 key.2⟩
  have h1 := sum_nodup (g := fun _ => 1) (f := fun _ => 1) l.length p key.1 (fun x hx => ⟨(key.2 x hx).1, Nat.le_refl _⟩)
  have h2 : ∀ q : List Nat, (q.map fun _ => 1).sum = q.length := fun q => by
    induction q with
    | nil => rfl
    | cons a q ih => rw [List.map_cons, List.sum_cons, ih, List.length_cons]; omega
  have h3 : ∀ k, sumN (fun _ => 1) k = k := fun k => by
    induction k with
    | zero => rfl
    | succ k ih => show sumN (fun _ => 1) k + 1 = _; rw [ih]
  rw [h2, h3] at h1
  exact h1
/-- Each track is long enough. -/
def TrOk (l : List It) (tk b : List Int) (k : Nat) (p : List Nat) : Prop :=
  (∀ x ∈ p, x < l.length) ∧ p.length ≤ 96 ∧ sumW l p ≤ 38400 ∧ k < tk.length ∧ (0 < sumW l p → ∃ y : Nat, tk.getD k (-1) = (y : Int) ∧ y < b.length ∧ (sumW l p : Int) ≤ b.getD y 0)
theorem ld_of {l : List It} {s : Sc} {S : Nat} (h : ScR l s) (hS : s.st = (S : Int)) : ldS l s = toZ (ldN S (tnT l) (cdN s.v) (rdN l) (tnN l) (lnN l) l.length) := by
  obtain ⟨_, h14, _⟩ := make_pl h.1
  unfold ldS loadL
  rw [if_pos h14, hS]; rfl
theorem tr_ok {l : List It} {s : Sc} {b tk : List Int} {S : Nat} (h : ScR l s) (hS : s.st = (S : Int)) (A : Asg (ldS l s) b tk) {n k : Nat} {p : List Nat} (hn : n ≤ S) (hk : (atT l S s.v n)[k]? = some p) : TrOk l tk b k p := by
  obtain ⟨_, h14, S', hS', hp⟩ := make_pl h.1
  obtain rfl : S' = S := by omega
  obtain ⟨a1, a2, a3⟩ := atT_ok hp hn hk
  have hl := ld_of h hS
  have hkl : k < S' + tnT l := by rw [← atT_len l S' s.v n]; exact (List.getElem?_eq_some_iff.1 hk).1
  have hll : (ldS l s).length = S' + tnT l := by rw [hl, toZ_len, ldN_len]
  have hv : ld (ldS l s) k = ((ldN S' (tnT l) (cdN s.v) (rdN l) (tnN l) (lnN l) l.length).getD k 0 : Nat) := by
    have hx : k < (ldN S' (tnT l) (cdN s.v) (rdN l) (tnN l) (lnN l) l.length).length := by rw [ldN_len]; exact hkl
    unfold ld
    rw [hl, List.getD_eq_getElem?_getD, List.getD_eq_getElem?_getD]
    unfold toZ
    rw [List.getElem?_map, List.getElem?_eq_getElem hx]; rfl
  have hb := (loads_ok hp (hS ▸ h14)).2 (ld (ldS l s) k) (by
    unfold ld
    rw [show loadL l s.wt (S' : Int) s.v = ldS l s by unfold ldS; rw [hS]]
    rw [List.getD_eq_getElem?_getD, List.getElem?_eq_getElem (by rw [hll]; exact hkl)]
    exact List.getElem_mem _)
  refine ⟨a1, by have := hp.l96; omega, by omega, by rw [A.len, hll]; exact hkl, fun h0 => ?_⟩
  obtain ⟨y, y1, y2, y3⟩ := A.fit k (by rw [hll]; exact hkl) (by omega)
  exact ⟨y, y1, y2, by have : ld b y = b.getD y 0 := rfl; omega⟩
/-- The least codes sort. -/
theorem sorts_ok {l : List It} {s : Sc} {S : Nat} (h : ScR l s) (hS : s.st = (S : Int)) : sortE l s.wt ((mT S l.length (tnT l) (cdN s.v) (rdN l) (tnN l) (S + 1)).map toZ) = (true, 0) := by
  obtain ⟨hv, _, S', hS', hp⟩ := make_pl h.1
  obtain rfl : S' = S := by omega
  unfold sortE
  rw [if_pos hv, sor_plain hp]
  rcases h.1.1 with ⟨h1, h2, _⟩ | ⟨_, h2, _⟩ | ⟨_, _, ⟨bs, h3⟩, h4⟩
  · exact absurd h2.symm h1
  · cases h2
  · have hpl := h3.plan (formOk_of hv)
    have : allR l s.v l.length = true := List.all_eq_true.2 fun x hx => List.all_eq_true.2 fun y hy => by
      have := hpl.sort x y (List.mem_range.1 hx) (List.mem_range.1 hy)
      unfold okR
      by_cases e : rel l x y = 0
      · rw [e]; rfl
      · rw [via_str e] at this
        rw [decide_eq_true this, Bool.or_true]
    rw [this]

/-- A list of lists, in blocks from w0 on; the lists lie in w0. -/
structure CL (w0 w' : World) (v : Value) (ps : List (List Int)) : Prop where
  own : ∃ vals : List Value, w'.ownsRow w0.heap.size 22 1 v ps.length vals ∧ (∀ (k : Nat) (q : List Int), ps[k]? = some q → ∃ a c, vals[k]? = some (Value.slice a q.length c) ∧ Row .i64 w0 w0.heap.size a q ∧ q.length ≤ maxLen) ∧ ∀ u ∈ vals, u.oneCell' = true
  bel : Below w0.heap.size w0 w'
theorem CL.nil (w0 : World) : CL w0 (w0.alloc (.cells #[] 22)) (.slice (some ⟨w0.heap.size, 0, none⟩) 0 0) [] :=
  ⟨⟨[], own_empty (Nat.le_refl _), fun k q hk => by simp at hk, fun u hu => by cases hu⟩, (Below.refl _ _).alloc (Nat.le_refl _) _⟩
theorem CL.below {w0 w1 w2 : World} {v : Value} {ps : List (List Int)} (h : CL w0 w1 v ps) (k : Below w1.heap.size w1 w2) : CL w0 w2 v ps := by
  obtain ⟨⟨vals, h1, h2⟩, h3⟩ := h
  refine ⟨⟨vals, ⟨h1.1, ?_⟩, h2⟩, h3.trans (k.mono h3.size)⟩
  rcases h1.2 with g | ⟨g, cap, cur, e1, e2, e3, e4⟩
  · exact Or.inl g
  · exact Or.inr ⟨g, cap, cur, e1, e2, (k.block g (Array.getElem?_eq_some_iff.1 e3).1).trans e3, e4⟩
theorem CL.at_ {w0 w1 : World} {v : Value} {ps : List (List Int)} (h : CL w0 w1 v ps) : ∃ A c, v = .slice A ps.length c ∧ ∀ (k : Nat) (q : List Int), ps[k]? = some q → ∃ ad : Addr, A = some ad ∧ ad.block < w1.heap.size ∧ ∃ a c, w1.cell? (ad.add k) = some (.slice a q.length c) ∧ Row .i64 w1 w1.heap.size a q ∧ q.length ≤ maxLen := by
  obtain ⟨⟨vals, h1, h2, -⟩, h3⟩ := h
  rcases h1.2 with ⟨rfl, hn⟩ | ⟨g, cap, cur, rfl, e2, e3, e4, e5, e6, e7⟩
  · have : ps = [] := List.length_eq_zero_iff.1 hn
    subst this
    exact ⟨none, 0, rfl, fun k q hk => by simp at hk⟩
  · refine ⟨_, _, rfl, fun k q hk => ⟨_, rfl, (Array.getElem?_eq_some_iff.1 e3).1, ?_⟩⟩
    obtain ⟨a, c, g1, g2, g3⟩ := h2 k q hk
    refine ⟨a, c, ?_, g2.below h3, g3⟩
    rw [add_own]
    have hk2 := (List.getElem?_eq_some_iff.1 hk).1
    rw [← e7, List.getElem?_take_of_lt (by omega)] at g1
    unfold World.cell?
    rw [e3]
    simpa using g1
/-- The headers of a list of lists. -/
theorem PP.vals {w : World} {A : Option Addr} {ps : List (List Int)} (h : PP w A ps) : ∃ vals : List Value, vals.length = ps.length ∧ (∀ ad, A = some ad → ∀ j u, vals[j]? = some u → w.cell? (ad.add j) = some u) ∧
    (∀ (k : Nat) (q : List Int), ps[k]? = some q → ∃ a c, vals[k]? = some (Value.slice a q.length c) ∧ Row .i64 w w.heap.size a q ∧ q.length ≤ maxLen) ∧ ∀ u ∈ vals, u.oneCell' = true := by
  have hc : ∀ k : Fin ps.length, ∃ u : Value, (∃ a c, u = .slice a (ps[k.1]).length c ∧ Row .i64 w w.heap.size a ps[k.1] ∧ (ps[k.1]).length ≤ maxLen) ∧ ∀ ad, A = some ad → w.cell? (ad.add k.1) = some u := fun k => by
    obtain ⟨ad, rfl, hb, a, c, h1, h2, h3⟩ := h k.1 _ (List.getElem?_eq_getElem k.2)
    exact ⟨_, ⟨a, c, rfl, h2, h3⟩, fun ad' e => by injection e with e; subst e; exact h1⟩
  obtain ⟨f, hf⟩ := Classical.axiomOfChoice hc
  refine ⟨List.ofFn f, List.length_ofFn, fun ad e j u hj => ?_, fun k q hk => ?_, fun u hu => ?_⟩
  · obtain ⟨h1, h2⟩ := List.getElem?_eq_some_iff.1 hj
    rw [List.getElem_ofFn] at h2
    rw [← h2]
    exact (hf ⟨j, by rw [List.length_ofFn] at h1; exact h1⟩).2 ad e
  · obtain ⟨h1, rfl⟩ := List.getElem?_eq_some_iff.1 hk
    obtain ⟨a, c, g1, g2, g3⟩ := (hf ⟨k, h1⟩).1
    exact ⟨a, c, by rw [List.getElem?_eq_getElem (by rw [List.length_ofFn]; exact h1), List.getElem_ofFn, g1], g2, g3⟩
  · obtain ⟨j, hj, e⟩ := List.getElem_of_mem hu
    rw [List.getElem_ofFn] at e
    obtain ⟨a, c, g1, _⟩ := (hf _).1
    rw [← e, g1]; rfl
theorem infoLst : (Tryz.prog.info? 22).map (fun i => (i.zero, i.size, i.bytes)) = some (some (.slice none 0 0), 1, 24) := by kernel_rfl
theorem wpList_cat {w0 W : World} {ops : Array Oper} {rest : List Oper} {o : Oper} {a : Act} {Q : Exit → Act → World → Prop} (hgn : o.guard = none) (s x : Operand)
    (ho : o.op = .call { callee := .builtin .append, args := #[s, x], argTypes := #[77, 77] }) (v : Value) (ps : List (List Int)) (hs : a.eval s = v) (C : CL w0 W v ps)
    (A : Option Addr) (m c : Nat) (qs : List (List Int)) (hm : m = qs.length) (hx : a.eval x = .slice A m c) (hA : A = none → m = 0 ∧ c = 0) (hq : PP w0 A qs) (hl : ps.length + m ≤ 1000)
    (h : ∀ v' w', CL w0 w' v' (ps ++ qs) → wpList Tryz.prog ops Q rest (a.put o.dst v') w') : wpList Tryz.prog ops Q (o :: rest) a W := by
  obtain ⟨i0, hi, hz0, hz1, hz2⟩ := info_parts infoLst
  obtain ⟨⟨vals, h1, h2, h4⟩, h3⟩ := C
  obtain ⟨news, n1, n2, n3, n4⟩ := hq.vals
  subst hm
  refine wpList_app_src hgn s x 77 ho w0.heap.size 22 i0 (.slice none 0 0) 1 24 Tryz.underlying77 hi hz0 hz1 hz2 rfl (by decide) _ ps.length vals hs h1 A qs.length c news hx hA (by rw [n1, Nat.mul_one]) (fun ad e j u hj => ?_) n4 (by unfold maxLen; omega) (by omega) h3.size ?_
  · obtain ⟨q, hq2⟩ : ∃ q, qs[j]? = some q := ⟨_, List.getElem?_eq_getElem (by rw [← n1]; exact (List.getElem?_eq_some_iff.1 hj).1)⟩
    obtain ⟨ad', e', hb, _⟩ := hq j q hq2
    obtain rfl : ad' = ad := (Option.some.inj (e.symm.trans e')).symm
    exact (h3.cell (p := ad'.add j) (by rw [add_block]; exact hb)).trans (n2 _ e j u hj)
  · intro v' w' hown hg
    refine h v' w' ⟨⟨vals ++ news, by rw [List.length_append]; exact hown, fun k q hk => ?_, fun u hu => ?_⟩, h3.grown hg h3.size (fun g hv => ?_)⟩
    · rcases Nat.lt_or_ge k ps.length with g | g
      · rw [List.getElem?_append_left g] at hk
        obtain ⟨a', c', e1, e2⟩ := h2 k q hk
        exact ⟨a', c', by rw [List.getElem?_append_left (by rw [h1.1]; omega)]; exact e1, e2⟩
      · rw [List.getElem?_append_right g] at hk
        obtain ⟨a', c', e1, e2⟩ := n3 _ q hk
        have hvl : vals.length = ps.length := by rw [h1.1, Nat.mul_one]
        exact ⟨a', c', by rw [List.getElem?_append_right (by omega), hvl]; exact e1, e2⟩
    · rcases List.mem_append.1 hu with g | g
      · exact h4 u g
      · exact n4 u g
    · rcases h1.2 with ⟨rfl, hn⟩ | ⟨g', cap, cur, rfl, e2, _⟩
      · cases hv
      · simp only [Value.ownBlock, Option.some.injEq] at hv
        omega
end Go.Proofs.YtimkmieohkefiaaGreat
