/-
  Stage 17: what PlannerLimits needs: orders of the call's own; the items of made wagons; the plan of four items on many tracks.
-/
import Derived.Test.YtimkmieohkefiaaGreatZGVp
import Derived.Test.YtimkmieohkefiaaGreatBA5
set_option linter.unusedSimpArgs false
set_option linter.unusedVariables false
namespace Go.Proofs.YtimkmieohkefiaaGreat
open Go.RowKit Go.Lib

/-- A string, as one cell. -/
def StR : Rec ByteArray := ⟨1, by decide, fun s => [.string s], fun _ => rfl, fun x u hu => by
  simp only [List.mem_cons, List.not_mem_nil, or_false] at hu
  subst hu; rfl⟩
/-- An order: the header of a list. -/
def OrR : Rec (Option Addr × Nat × Nat) := ⟨1, by decide, fun h => [.slice h.1 h.2.1 h.2.2], fun _ => rfl, fun x u hu => by
  simp only [List.mem_cons, List.not_mem_nil, or_false] at hu
  subst hu; rfl⟩
theorem flatS (bs : List ByteArray) : StR.flat bs = bs.map Value.string := by
  induction bs with
  | nil => rfl
  | cons x l ih =>
    show Value.string x :: StR.flat l = _
    rw [ih]; rfl
theorem infoStr17 : (Tryz.prog.info? 9).map (fun i => (i.zero, i.size, i.bytes)) = some (some (.string ByteArray.empty), StR.m, 16) := by kernel_rfl
theorem infoOrd17 : (Tryz.prog.info? 29).map (fun i => (i.zero, i.size, i.bytes)) = some (some (.agg #[.slice none 0 0]), OrR.m, 24) := by kernel_rfl
theorem ROwn.keptR {α β : Type} {R : Rec α} {R' : Rec β} {T U : TypeId} {w w' : World} {base base' : Nat} {u v : Value} {l : List α} {l' : List β} (h : ROwn R T w base u l) (h' : ROwn R' U w base' v l') (hT : T ≠ U) (g : w.grownBy w' u.ownBlock) : ROwn R' U w' base' v l' := by
  refine ⟨h'.1, ?_⟩
  rcases h'.2 with e | ⟨g', cap', cur', rfl, e2, hh', e4⟩
  · exact Or.inl e
  · refine Or.inr ⟨g', cap', cur', rfl, e2, (g.block g' (Array.getElem?_eq_some_iff.1 hh').1 (fun e => ?_)).trans hh', e4⟩
    rcases h.2 with ⟨rfl, _⟩ | ⟨g1, cap, cur, rfl, _, hh, _⟩
    · cases e
    · simp only [Value.ownBlock, Option.some.injEq] at e
      subst e
      rw [hh] at hh'
      injection hh' with hh'
      injection hh' with _ h2
      exact hT h2
/-- Orders of the call's own. -/
structure OO (w : World) (base : Nat) (v : Value) (os : List (List ByteArray)) : Prop where
  own : ∃ hs, ROwn OrR 29 w base v hs ∧ hs.length = os.length ∧ ∀ (k : Nat) (bs : List ByteArray), os[k]? = some bs → ∃ a c, hs[k]? = some (a, bs.length, c) ∧ ROwn StR 9 w base (.slice a bs.length c) bs
theorem OO.below {w w' : World} {base : Nat} {v : Value} {os : List (List ByteArray)} (h : OO w base v os) (k : Below w.heap.size w w') : OO w' base v os := by
  obtain ⟨hs, h1, h2, h3⟩ := h.own
  exact ⟨⟨hs, h1.below k, h2, fun i bs hi => by
    obtain ⟨a, c, e1, e2⟩ := h3 i bs hi
    exact ⟨a, c, e1, e2.below k⟩⟩⟩
theorem OO.moves {m : Nat} {w w' : World} {base : Nat} {v : Value} {os : List (List ByteArray)} (h : OO w base v os) (k : Moves m w w') (hm : m < base) : OO w' base v os := by
  obtain ⟨hs, h1, h2, h3⟩ := h.own
  exact ⟨⟨hs, h1.moves k hm, h2, fun i bs hi => by
    obtain ⟨a, c, e1, e2⟩ := h3 i bs hi
    exact ⟨a, c, e1, e2.moves k hm⟩⟩⟩
theorem OO.slice {w : World} {base : Nat} {v : Value} {os : List (List ByteArray)} (h : OO w base v os) : ∃ A c, v = .slice A os.length c ∧ ORw w A os := by
  obtain ⟨hs, h1, h2, h3⟩ := h.own
  obtain ⟨A, c, rfl, RR⟩ := h1.slice
  refine ⟨A, c, by rw [h2], fun k bs hk => ?_⟩
  obtain ⟨a, cc, e1, e2⟩ := h3 k bs hk
  obtain ⟨ad, rfl, CX⟩ := RR.at_ e1
  have c0 : w.cell? (ad.add (k * 1)) = some (.slice a bs.length cc) := CX.first rfl
  rw [Nat.mul_one] at c0
  obtain ⟨A', c', e, RS⟩ := e2.slice
  injection e with ea
  subst ea
  have hl := e2.full
  obtain ⟨_, _, e', _, hl1, hl2, _⟩ := hl
  injection e' with _ _ e3
  have hv := RS.row
  rw [flatS] at hv
  exact ⟨ad, a, cc, rfl, CX.lt, c0, hv, by omega⟩
/-- The list of one order, just laid. -/
theorem OO.lit (w : World) (bs : List ByteArray) (hm : bs.length ≤ maxLen) : OO ((w.alloc (.cells (bs.map Value.string).toArray 9)).alloc (.cells #[.slice (some ⟨w.heap.size, 0, none⟩) bs.length bs.length] 29)) w.heap.size (.slice (some ⟨w.heap.size + 1, 0, none⟩) 1 1) [bs] := by
  have e1 : (w.alloc (.cells (bs.map Value.string).toArray 9)).heap.size = w.heap.size + 1 := by simp
  have a1 := heap_alloc_new w (.cells (bs.map Value.string).toArray 9)
  have a2 := heap_alloc_new (w.alloc (.cells (bs.map Value.string).toArray 9)) (.cells #[.slice (some ⟨w.heap.size, 0, none⟩) bs.length bs.length] 29)
  have b2 := box1W (w.alloc (.cells (bs.map Value.string).toArray 9)) (.cells #[.slice (some ⟨w.heap.size, 0, none⟩) bs.length bs.length] 29)
  rw [e1] at a2
  have a1' := (b2.block w.heap.size (by omega)).trans a1
  refine ⟨⟨[(some ⟨w.heap.size, 0, none⟩, bs.length, bs.length)], ⟨rfl, Or.inr ⟨w.heap.size + 1, 1, _, rfl, by omega, a2, Nat.le_refl _, by decide, rfl, rfl⟩⟩, rfl, fun k q hk => ?_⟩⟩
  cases k with
  | zero =>
    simp at hk
    subst hk
    refine ⟨_, _, rfl, ⟨by rw [flatS, List.length_map]; show bs.length = bs.length * 1; omega, Or.inr ⟨w.heap.size, bs.length, _, rfl, Nat.le_refl _, a1', Nat.le_refl _, hm, ?_, ?_⟩⟩⟩
    · show _ = bs.length * 1
      simp
    · rw [flatS]
      show (bs.map Value.string).take (bs.length * 1) = _
      rw [Nat.mul_one, List.take_of_length_le (by simp)]
  | succ k => simp at hk
theorem wpList_ord {W : World} {ops : Array Oper} {rest : List Oper} {o : Oper} {a : Act} {Q : Exit → Act → World → Prop} (hgd : o.guard = none) (s x : Operand)
    (ho : o.op = .call { callee := .builtin .append, args := #[s, x], argTypes := #[30, 30] }) (base : Nat) (v : Value) (os : List (List ByteArray)) (hs : a.eval s = v) (w0 : World) (O : OO w0 base v os)
    (A : Option Addr) (n c : Nat) (bs : List ByteArray) (hn : n = bs.length) (hb : ROwn StR 9 w0 base (.slice A n c) bs) (hW : W = w0.alloc (.cells #[.slice A n c] 29)) (z : Nat) (hz : w0.heap.size = z) (hx : a.eval x = .slice (some ⟨z, 0, none⟩) 1 1)
    (hl : os.length ≤ 1000) (hbase : base ≤ w0.heap.size)
    (h : ∀ v' w', OO w' base v' (os ++ [bs]) → W.grownBy w' v.ownBlock → (∀ g, v.ownBlock = some g → base ≤ g) → wpList Tryz.prog ops Q rest (a.put o.dst v') w') : wpList Tryz.prog ops Q (o :: rest) a W := by
  have OW := O.below (show Below w0.heap.size w0 W by rw [hW]; exact box1W w0 _)
  have HB := ROwn.below hb (show Below w0.heap.size w0 W by rw [hW]; exact box1W w0 _)
  obtain ⟨hs', h1, h2, h3⟩ := OW.own
  refine wpList_appR OrR Tryz.underlying30 infoOrd17 rfl (by decide) W hgd s x ho base v hs' hs h1 [(A, n, c)] w0 hW z hz 1 1 rfl (by decide) hx (by rw [h2]; omega) (by rw [hW]; exact le_allocG hbase) ?_
  intro v' w' AP
  refine h v' w' ?_ AP.2.1 (fun g hg => ?_)
  · subst hn
    refine ⟨⟨hs' ++ [(A, bs.length, c)], AP.1, by rw [List.length_append, List.length_append, h2]; rfl, fun i q hi => ?_⟩⟩
    rcases Nat.lt_or_ge i os.length with g | g
    · rw [List.getElem?_append_left g] at hi
      obtain ⟨a', c', e1, e2⟩ := h3 i q hi
      exact ⟨a', c', by rw [List.getElem?_append_left (by omega)]; exact e1, h1.keptR e2 (by decide) AP.2.1⟩
    · rw [List.getElem?_append_right g] at hi
      have h0 : i - os.length = 0 := by
        have := (List.getElem?_eq_some_iff.1 hi).1
        simp at this; omega
      rw [h0] at hi
      simp at hi
      subst hi
      exact ⟨A, c, by rw [List.getElem?_append_right (by omega), show i - hs'.length = 0 by omega]; rfl, h1.keptR HB (by decide) AP.2.1⟩
  · rcases h1.2 with ⟨rfl, _⟩ | ⟨g1, cap, cur, rfl, e2, _⟩
    · cases hg
    · simp only [Value.ownBlock, Option.some.injEq] at hg
      omega
theorem name_idx {d : ByteArray} (h : d ∈ namesL) : ∃ j : Nat, j < 10 ∧ idxZ d 0 namesL = (j : Int) ∧ namesL[j]? = some d := by
  simp only [namesL, List.mem_cons, List.not_mem_nil, or_false] at h
  rcases h with h | h | h | h | h | h | h | h | h | h <;> subst h
  · exact ⟨0, by decide, by decide +kernel, rfl⟩
  · exact ⟨1, by decide, by decide +kernel, rfl⟩
  · exact ⟨2, by decide, by decide +kernel, rfl⟩
  · exact ⟨3, by decide, by decide +kernel, rfl⟩
  · exact ⟨4, by decide, by decide +kernel, rfl⟩
  · exact ⟨5, by decide, by decide +kernel, rfl⟩
  · exact ⟨6, by decide, by decide +kernel, rfl⟩
  · exact ⟨7, by decide, by decide +kernel, rfl⟩
  · exact ⟨8, by decide, by decide +kernel, rfl⟩
  · exact ⟨9, by decide, by decide +kernel, rfl⟩
/-- The item of a made wagon. -/
def itM (x : Wag) : It := (0, idxZ x.dst 0 namesL, 0, x.len)
theorem its_made (os : List (List ByteArray)) : ∀ (l : List Wag) (out : List It), (∀ x ∈ l, validW x = 0 ∧ x.dst ∈ namesL) → itsZ (namesL :: os) out l = (out ++ l.map itM, 0) := by
  intro l
  induction l with
  | nil => intro out _; simp [itsZ]
  | cons x l ih =>
    intro out h
    obtain ⟨h1, h2⟩ := h x (List.mem_cons_self ..)
    obtain ⟨j, hj, e1, e2⟩ := name_idx h2
    have hp : plcZ x.dst 0 (namesL :: os) = (0, idxZ x.dst 0 namesL, true) := by
      show (if 0 ≤ idxZ x.dst 0 namesL then (((0 : Nat) : Int), idxZ x.dst 0 namesL, true) else _) = _
      rw [if_pos (by omega)]; rfl
    show (if validW x ≠ 0 then ([], validW x) else if (plcZ x.dst 0 (namesL :: os)).2.2 = true then itsZ (namesL :: os) (out ++ [((plcZ x.dst 0 (namesL :: os)).1, (plcZ x.dst 0 (namesL :: os)).2.1, 0, x.len)]) l else ([], 13)) = _
    rw [if_neg (fun g => g h1), hp, if_pos rfl, ih _ (fun y hy => h y (List.mem_cons_of_mem _ hy))]
    simp [itM]
theorem made_ok {l : List Wag} (h : Made17 l) : ∀ x ∈ l, validW x = 0 ∧ x.dst ∈ namesL := fun x hx => by
  obtain ⟨k, hk⟩ := List.mem_iff_getElem?.1 hx
  have := h k x hk
  exact ⟨this.1.1, this.2⟩
theorem itemsR_made {os : List (List ByteArray)} {l : List Wag} (h : Made17 l) : itemsR (namesL :: os) l = if limB (namesL :: os) l.length = true then (l.map itM, 0) else ([], 3) := by
  unfold itemsR
  rw [its_made os l [] (made_ok h), List.nil_append]
theorem mout4N {m : Nat} (h : m ≤ 1) : MOut [200, 100, 400] (List.replicate (31 + m) 500) [2, 0, 1] [1, 2, 0] [] 0 := by
  obtain rfl | rfl : m = 0 ∨ m = 1 := by omega
  · exact Or.inr (Or.inl ⟨by decide +kernel, by unfold OkTo; decide +kernel, by decide +kernel, rfl, rfl⟩)
  · exact Or.inr (Or.inl ⟨by decide +kernel, by unfold OkTo; decide +kernel, by decide +kernel, rfl, rfl⟩)
theorem trkN (m : Nat) (h : m ≤ 2) : trkE (List.replicate (31 + m) 500) = if 1 < m then 3 else 0 := by
  obtain rfl | rfl | rfl : m = 0 ∨ m = 1 ∨ m = 2 := by omega
  · decide +kernel
  · decide +kernel
  · decide +kernel
theorem plan4N {m : Nat} (hm : m ≤ 2) {q : List Sc} {res : Option (Sc × List Int)} {rf : List Int} {er : Int} (h : Srt17 (scL its4) q) (k : PlanR its4 (List.replicate (31 + m) 500) q res rf er) :
    rf = [] ∧ er = (if 1 < m then 3 else 0) := by
  by_cases h1 : 1 < m
  · rw [if_pos h1]
    have ht := trkN m hm
    rw [if_pos h1] at ht
    rcases k with ⟨_, _, e1, e2⟩ | ⟨h0, _⟩ | ⟨h0, _⟩
    · exact ⟨e1, by rw [e2, ht]⟩
    · rw [ht] at h0; cases h0
    · rw [ht] at h0; cases h0
  · rw [if_neg h1]
    have ht := trkN m hm
    rw [if_neg h1] at ht
    obtain ⟨c1, c2, c3, e'⟩ := its4_sc
    have hq := q_first h (s := ⟨1, ((2 : Nat) : Int), mvZ its4 ((2 : Nat) : Int) [1, 2, 0, 1], (pushZ its4 1 ((2 : Nat) : Int) [1, 2, 0, 1]).1, [1, 2, 0, 1], c1⟩) (by rw [e']; exact List.mem_cons_self ..) (fun t ht => by
      rw [e'] at ht
      simp only [List.mem_cons, List.not_mem_nil, or_false] at ht
      rcases ht with rfl | rfl | rfl
      · exact Or.inl rfl
      · exact Or.inr (Or.inr ⟨rfl, Or.inr ⟨rfl, by simp only; omega⟩⟩)
      · exact Or.inr (Or.inr ⟨rfl, Or.inr ⟨rfl, by simp only; omega⟩⟩))
    have hmt : MatR (ldS its4 ⟨1, ((2 : Nat) : Int), mvZ its4 ((2 : Nat) : Int) [1, 2, 0, 1], (pushZ its4 1 ((2 : Nat) : Int) [1, 2, 0, 1]).1, [1, 2, 0, 1], c1⟩) (List.replicate (31 + m) 500) [1, 2, 0] [] 0 := by
      show MatR (loadL its4 1 ((2 : Nat) : Int) [1, 2, 0, 1]) _ _ _ _
      rw [ld4]
      exact ⟨_, ord4, mout4N (by omega)⟩
    have hk : PlanR its4 (List.replicate (31 + m) 500) q (some (_, [1, 2, 0])) [] 0 := Or.inr (Or.inl ⟨ht, 0, _, [1, 2, 0], hq, fun j t hj => absurd hj (Nat.not_lt_zero _), hmt, rfl, rfl, rfl⟩)
    obtain ⟨-, rfl, rfl⟩ := k.uniq hk
    exact ⟨rfl, rfl⟩
end Go.Proofs.YtimkmieohkefiaaGreat
