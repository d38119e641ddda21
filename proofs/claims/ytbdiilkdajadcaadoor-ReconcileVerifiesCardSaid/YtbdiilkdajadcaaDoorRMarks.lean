/-
  Stage 8: marks of loops over iterators that have run; tables beside them.
-/
import Derived.Test.YtbdiilkdajadcaaDoorRStop
import Derived.Test.YtbdiilkdajadcaaDoorRTab
set_option linter.unusedSimpArgs false
set_option linter.unusedVariables false
namespace Go.Proofs.YtbdiilkdajadcaaDoor
open Go.RowKit Go.Shelf

/-- The marks ds, laid from block B on. -/
def Mks (B : Nat) (w : World) : List Deferred → Prop
  | [] => True
  | d :: ds => (∃ D, d = { target := .collected D, args := #[] } ∧ B ≤ D ∧ w.heap[D]? = some (.deferred (some [])) ∧ ∀ d' ∈ ds, d'.target ≠ .collected D) ∧ Mks B w ds
theorem Mks.imp {B : Nat} {w w' : World} : ∀ {ds : List Deferred}, (∀ D, ({ target := .collected D, args := #[] } : Deferred) ∈ ds → w.heap[D]? = some (.deferred (some [])) → w'.heap[D]? = some (.deferred (some []))) → Mks B w ds → Mks B w' ds
  | [], _, _ => trivial
  | d :: ds, h, ⟨⟨D, e, hB, hk, hn⟩, hs⟩ => ⟨⟨D, e, hB, h D (by rw [e]; exact List.mem_cons_self ..) hk, hn⟩, hs.imp (fun D' hm hk' => h D' (List.mem_cons_of_mem _ hm) hk')⟩
theorem Mks.keeps {B : Nat} {w w' : World} {ds : List Deferred} (h : Mks B w ds) (k : KeepsFrom 0 w w') : Mks B w' ds := h.imp fun D _ hk => k.same D _ (Nat.zero_le _) hk rfl
theorem Mks.lt {B : Nat} {w : World} : ∀ {ds : List Deferred}, Mks B w ds → ∀ d ∈ ds, ∃ D, d.target = .collected D ∧ D < w.heap.size
  | [], _, d, hd => by cases hd
  | d0 :: ds, ⟨⟨D, e, hB, hk, hn⟩, hs⟩, d, hd => by
    rcases List.mem_cons.1 hd with h | h
    · subst h; subst e; exact ⟨D, rfl, (Array.getElem?_eq_some_iff.1 hk).1⟩
    · exact hs.lt d h
/-- One mark more. -/
theorem Mks.more {B : Nat} {w0 w : World} {ds : List Deferred} (h0 : Mks B w0 ds) (k : KeepsFrom 0 w0 w) {D : Nat} (hD : w0.heap.size ≤ D) (hB : B ≤ D) (hk : w.heap[D]? = some (.deferred (some []))) : Mks B w ({ target := .collected D, args := #[] } :: ds) :=
  ⟨⟨D, rfl, hB, hk, fun d' hd' e => by
    obtain ⟨D', e', hl⟩ := h0.lt d' hd'
    rw [e'] at e
    injection e with e
    omega⟩, h0.keeps k⟩
theorem leaves_marks {F : Fence} {n : Nat} {P : Program} {fn : Func} {tmps : Array Value} {R : Ending → World → Prop} {B : Nat} {J : World → Prop} (hJ : ∀ w D o o', J w → B ≤ D → w.heap[D]? = some o → o.isCells = false → J (w.putObj D o'))
    (hfin : ∀ w, J w → LeavesIn F n P fn tmps R [] .returning w) : ∀ (ds : List Deferred) (w : World), Mks B w ds → J w → LeavesInM F n P fn tmps R ds .returning w
  | [], w, _, hj => hfin w hj
  | d :: ds, w, ⟨⟨D, e, hB, hk, hn⟩, hs⟩, hj => by
    subst e
    refine ⟨by simp, .inl ⟨D, _, rfl, run_takeDeferred hk, ?_⟩⟩
    refine leaves_marks hJ hfin ds _ (hs.imp fun D' hm hk' => ?_) (hJ w D _ _ hj hB hk rfl)
    exact (World.putObj_heap_other (fun e => hn _ hm (by rw [e]))).trans hk'
section
variable {α : Type} {R : Rec α} {e : TypeId} {w w' : World} {base g L M k : Nat} {rb rc : Nat → Nat} {T : Nat → Nat → α}
theorem ROwn.of_heap {v : Value} {l : List α} (h : ROwn R e w base v l) (hk : ∀ b, v.ownBlock = some b → w'.heap[b]? = w.heap[b]?) : ROwn R e w' base v l := by
  refine ⟨h.1, ?_⟩
  rcases h.2 with q | ⟨g, cap, cur, e1, e2, e3, e4⟩
  · exact Or.inl q
  · exact Or.inr ⟨g, cap, cur, e1, e2, (hk g (by rw [e1]; rfl)).trans e3, e4⟩
theorem Tab.of_heap (h : Tab R e w base g L M k rb rc T) (hs : w.heap.size ≤ w'.heap.size) (hg : w'.heap[g]? = w.heap[g]?) (hr : ∀ i, i < k → w'.heap[rb i]? = w.heap[rb i]?) : Tab R e w' base g L M k rb rc T :=
  ⟨Nat.lt_of_lt_of_le h.glt hs, h.gb, fun j => (World.frozen?_of_block (w := w) hg).trans (h.fz j), fun i hi => (World.cell?_of_block (w := w) hg).trans (h.out i hi), fun i h1 h2 => (World.cell?_of_block (w := w) hg).trans (h.nil i h1 h2),
    fun i hi => (h.row i hi).of_heap (fun b hb => by injection hb with hb; subst hb; exact hr i hi), h.ne, h.inj⟩
theorem Tab.under (h : Tab R e w base g L M k rb rc T) {B : Nat} (b : Below B w w') (hs : w.heap.size ≤ w'.heap.size) (hg : g < B) (hr : ∀ i, i < k → rb i < B) : Tab R e w' base g L M k rb rc T :=
  h.of_heap hs (b.block g hg) (fun i hi => b.block _ (hr i hi))
/-- A block that is no cells is turned. -/
theorem Tab.putObj (h : Tab R e w base g L M k rb rc T) (h0 : 0 < k) {D : Nat} {o : Obj} (o' : Obj) (hD : w.heap[D]? = some o) (ho : o.isCells = false) : Tab R e (w.putObj D o') base g L M k rb rc T := by
  have hs : w.heap.size ≤ (w.putObj D o').heap.size := (grownBy_putObj' w D o').size
  refine h.of_heap hs (World.putObj_heap_other ?_) (fun i hi => World.putObj_heap_other ?_)
  · intro e
    have c := h.out 0 h0
    unfold World.cell? at c
    simp only at c
    rw [e, hD] at c
    cases o <;> simp_all [Obj.isCells]
  · intro e
    rcases (h.row i hi).2 with ⟨q, _⟩ | ⟨g', cap, cur, e1, e2, e3, _⟩
    · cases q
    · injection e1 with e1 _ _
      injection e1 with e1
      injection e1 with e1 _ _
      rw [← e1, e, hD] at e3
      injection e3 with e3
      subst e3
      cases ho
end
end Go.Proofs.YtbdiilkdajadcaaDoor
