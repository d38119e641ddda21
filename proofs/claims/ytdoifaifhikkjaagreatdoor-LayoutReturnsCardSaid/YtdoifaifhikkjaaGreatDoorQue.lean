/-
  A queue of structs of the call's own: a slice that may begin in the middle of its block ('open = open[1:]', 'append(open, ..)').
-/
import Derived.Test.YtdoifaifhikkjaaGreatDoorRec
import Derived.Deep.Upon
set_option linter.unusedSimpArgs false
set_option linter.unusedVariables false
namespace Go.Proofs.YtdoifaifhikkjaaGreatDoor
open Go.RowKit

section
variable {α : Type} {R : Rec α}
/-- The slice v is the list l, in block b, which is the call's own. -/
structure Que (R : Rec α) (w : World) (b : Nat) (v : Value) (l : List α) : Prop where
  lt : b < w.heap.size
  ex : ∃ ao off cap, v = .slice ao l.length cap ∧ Came w R.m ao b off l.length cap (R.flat l) ∧ cap ≤ maxLen
theorem Que.move {w w' : World} {b : Nat} {v : Value} {l : List α} (h : Que R w b v l) (hs : w.heap.size ≤ w'.heap.size) (hb : w'.heap[b]? = w.heap[b]?) : Que R w' b v l := by
  obtain ⟨hlt, ao, off, cap, e, C, hm⟩ := h
  have hc : ∀ o, w'.cell? ⟨b, o, none⟩ = w.cell? ⟨b, o, none⟩ := fun o => World.cell?_of_block (a := ⟨b, o, none⟩) hb
  have hf : ∀ o, w'.frozen? ⟨b, o, none⟩ = w.frozen? ⟨b, o, none⟩ := fun o => World.frozen?_of_block (a := ⟨b, o, none⟩) hb
  refine ⟨by omega, ao, off, cap, e, ⟨C.le, C.addr, fun _ => by omega, C.oldsLen, fun j u hj => ?_, fun j hj => ?_⟩, hm⟩
  · rw [hc]; exact C.olds j u hj
  · rw [hc, hf]; exact C.spare j hj
theorem Que.below {w w' : World} {b : Nat} {v : Value} {l : List α} (h : Que R w b v l) (k : Below w.heap.size w w') : Que R w' b v l := h.move k.size (k.block b h.lt)
theorem Que.moves {m : Nat} {w w' : World} {b : Nat} {v : Value} {l : List α} (h : Que R w b v l) (k : Moves m w w') (hm : b ≠ m) : Que R w' b v l := h.move k.size (k.block b h.lt hm)
theorem Que.kept {w w' : World} {b : Nat} {v : Value} {l : List α} {row : Option Nat} (h : Que R w b v l) (k : w.grownBy w' row) (hm : row ≠ some b) : Que R w' b v l := h.move k.size (k.block b h.lt (fun e => hm e.symm))
theorem Que.drewN {w : World} {b : Nat} {v : Value} {l : List α} (h : Que R w b v l) (n : Nat) : Que R (w.drewN n) b v l := h.move (Nat.le_refl _) rfl
theorem Que.drew {w : World} {b : Nat} {v : Value} {l : List α} (h : Que R w b v l) : Que R w.drew b v l := h.move (Nat.le_refl _) rfl
theorem Que.alloc {w : World} {b : Nat} {v : Value} {l : List α} (h : Que R w b v l) (o : Obj) : Que R (w.alloc o) b v l := h.below ((Below.refl _ _).alloc (Nat.le_refl _) _)
theorem Que.setCell {w : World} {b : Nat} {v : Value} {l : List α} (h : Que R w b v l) {p : Addr} (hp : p.block ≠ b) (u : Value) : Que R (w.setCell p u) b v l :=
  h.move (by rw [World.size_setCell]; exact Nat.le_refl _) (Below.heap_setCell _ _ _ _ (fun e => hp e.symm))
theorem Que.new {w : World} {T : TypeId} (l : List α) (hm : l.length ≤ maxLen) (b : Nat) (hb : b = w.heap.size) : Que R (w.alloc (.cells (R.flat l).toArray T)) b (.slice (some ⟨b, 0, none⟩) l.length l.length) l := by
  subst hb
  refine ⟨by simp, _, 0, l.length, rfl, ⟨Nat.le_refl _, fun _ => rfl, fun _ => by simp, flatR_len R l, fun j u hj => ?_, fun j hj => ?_⟩, hm⟩
  · rw [Nat.zero_add, cell_new]; simpa using hj
  · simp at hj
/-- What it reads. -/
theorem Que.row {w : World} {b : Nat} {v : Value} {l : List α} (h : Que R w b v l) : ∃ ao cap, v = .slice ao l.length cap ∧ RRow R w ao l ∧ l.length ≤ cap ∧ cap ≤ maxLen := by
  obtain ⟨hlt, ao, off, cap, e, C, hm⟩ := h
  refine ⟨ao, cap, e, ⟨fun j u hj => ?_, Nat.le_trans C.le hm⟩, C.le, hm⟩
  have hl : j < (R.flat l).length := (List.getElem?_eq_some_iff.1 hj).1
  rw [flatR_len] at hl
  have hc : 0 < cap := by
    rcases Nat.eq_zero_or_pos l.length with h0 | h0
    · rw [h0] at hl; omega
    · exact Nat.lt_of_lt_of_le h0 C.le
  refine ⟨_, C.addr hc, hlt, ?_⟩
  have : (⟨b, off, none⟩ : Addr).add j = ⟨b, off + j, none⟩ := by unfold Addr.add; split <;> simp_all
  rw [this]
  exact C.olds j u hj
/-- open[1:]. -/
theorem Que.tail {w : World} {b : Nat} {ao : Option Addr} {n cap : Nat} {x : α} {l : List α} (h : Que R w b (.slice ao n cap) (x :: l)) : n = l.length + 1 ∧ Que R w b (.slice (if cap = 1 then ao else ao.map (·.add (1 * R.m))) l.length (cap - 1)) l := by
  obtain ⟨hlt, ao', off, cap', e, C, hm⟩ := h
  injection e with e1 e2 e3
  subst e1; subst e2; subst e3
  rw [List.length_cons] at C
  have hc : 0 < cap := by have := C.le; omega
  have hao := C.addr hc
  subst hao
  refine ⟨rfl, hlt, _, off + R.m, cap - 1, rfl, ⟨by have := C.le; omega, fun h1 => ?_, fun _ => hlt, flatR_len R l, fun j u hj => ?_, fun j hj => ?_⟩, by omega⟩
  · rw [if_neg (by omega)]
    have hp := R.pos
    show some ((⟨b, off, none⟩ : Addr).add (1 * R.m)) = _
    unfold Addr.add
    rw [if_neg (by omega), Nat.one_mul]
  · have := C.olds (R.m + j) u (by
      show (R.cells x ++ R.flat l)[R.m + j]? = _
      rw [List.getElem?_append_right (by rw [R.len]; omega), R.len, Nat.add_sub_cancel_left]; exact hj)
    rw [Nat.add_assoc]; exact this
  · have e1 : off + R.m + l.length * R.m + j = off + (l.length + 1) * R.m + j := by rw [Nat.succ_mul]; omega
    rw [e1]
    exact C.spare j (by rw [show cap - (l.length + 1) = cap - 1 - l.length by omega]; exact hj)
theorem tape_setCells (b : Nat) : ∀ (vs : List Value) (o : Nat) (w : World), (w.setCells b o vs).tape = w.tape
  | [], _, _ => rfl
  | v :: r, o, w => by
    rw [World.setCells, tape_setCells b r]
    rfl
theorem size_setCellsQ (b : Nat) : ∀ (vs : List Value) (o : Nat) (w : World), (w.setCells b o vs).heap.size = w.heap.size
  | [], _, _ => rfl
  | v :: r, o, w => by
    rw [World.setCells, size_setCellsQ b r, World.size_setCell]
/-- append(open, ..). -/
theorem run_app_que {P : Program} {w : World} (t ty e : TypeId) (i : TypeInfo) (z : Value) (bytes : Nat) (ht : P.underlying t = some (.slice e)) (hi : P.info? e = some i) (hz : i.zero = some z)
    (hsize : i.size = R.m) (hby : i.bytes = bytes) (hzs : z.cells.size = R.m) {b : Nat} {v : Value} {l : List α} (h : Que R w b v l)
    (ad : Addr) (ys : List α) (m c : Nat) (hm : m = ys.length) (hnews : ∀ j u, (R.flat ys)[j]? = some u → w.cell? (ad.add j) = some u) (h0 : 0 < m)
    (hn : l.length + ys.length ≤ 1000000) (hb1 : bytes ≤ 1000000) :
    ∃ v' w' b', (Builtin.append_ #[t, t] ty #[v, .slice (some ad) m c]).run P w = .ok v' w' ∧ Que R w' b' v' (l ++ ys) ∧ w.grownBy w' (some b) ∧ (b' = b ∨ b' = w.heap.size) := by
  subst hm
  obtain ⟨hlt, ao, off, cap, rfl, C, hmx⟩ := h
  have hp := R.pos
  have hs : Src P i.size t (.slice (some ad) ys.length c) ys.length (R.flat ys) w := Src.ofSlice w ht ad _ c _ (by rw [flatR_len, hsize]) hnews (flatR_one R ys)
  have hny : (R.flat ys).length = ys.length * R.m := flatR_len R ys
  have hnl : (R.flat l).length = l.length * R.m := flatR_len R l
  by_cases hroom : l.length + ys.length ≤ cap
  · have hao := C.addr (by omega)
    subst hao
    have hfit : (R.flat ys).length ≤ (cap - l.length) * R.m := by rw [hny]; exact Nat.mul_le_mul_right _ (by omega)
    have hr := run_append_room_src (P := P) w t t ty e i ht hi b off l.length cap _ ys.length (R.flat ys) hs hroom (fun j hj => by rw [hsize]; exact (C.spare j (by omega)).1) (fun j hj => by rw [hsize]; exact (C.spare j (by omega)).2)
    refine ⟨_, _, b, hr, ⟨by rw [size_setCellsQ]; exact hlt, _, off, cap, by rw [List.length_append], ?_, hmx⟩, ⟨World.os_setCells .., tape_setCells .., World.output_setCells .., by rw [size_setCellsQ]; exact Nat.le_refl _, fun k hk hne => World.heap_setCells_other w b _ _ hk (fun e => hne (by rw [e]))⟩, Or.inl rfl⟩
    rw [hsize]
    refine ⟨by rw [List.length_append]; exact hroom, fun _ => rfl, fun _ => by rw [size_setCellsQ]; exact hlt, flatR_len R _, fun j u hj => ?_, fun j hj => ?_⟩
    · rw [flatR_app] at hj
      by_cases hjl : j < (R.flat l).length
      · rw [List.getElem?_append_left hjl] at hj
        rw [World.cell?_setCells_out b _ _ _ _ (fun _ _ => Or.inl (by show off + j < _; omega))]
        exact C.olds j u hj
      · rw [List.getElem?_append_right (by omega)] at hj
        have hk : j - (R.flat l).length < (R.flat ys).length := (List.getElem?_eq_some_iff.1 hj).1
        have := World.cell?_setCells_in b (R.flat ys) (off + l.length * R.m) w (fun i hi => (C.spare i (by omega)).1) _ hk
        rw [show off + l.length * R.m + (j - (R.flat l).length) = off + j by omega] at this
        rw [this, ← hj, List.getElem?_eq_getElem hk]
    · rw [List.length_append] at hj ⊢
      have e1 : off + (l.length + ys.length) * R.m + j = off + l.length * R.m + (ys.length * R.m + j) := by rw [Nat.add_mul]; omega
      have h2 : ys.length * R.m + j < (cap - l.length) * R.m := by
        have e2 : (cap - l.length) * R.m = (cap - (l.length + ys.length)) * R.m + ys.length * R.m := by rw [← Nat.add_mul]; congr 1; omega
        omega
      have := C.spare _ h2
      rw [e1, World.frozen?_setCells, World.cell?_setCells_out b _ _ _ _ (fun _ _ => Or.inr (by show off + l.length * R.m + (R.flat ys).length ≤ off + l.length * R.m + (ys.length * R.m + j); omega))]
      exact this
  · have hold : (Builtin.firstCells i.size l.length (.slice ao l.length cap)).run P w.drew = .ok (R.flat l).toArray w.drew := by
      by_cases hc : cap = 0
      · have hl0 : l.length = 0 := by have := C.le; omega
        have hf0 : R.flat l = [] := List.length_eq_zero_iff.1 (by rw [hnl, hl0, Nat.zero_mul])
        rw [hf0, hl0]
        cases ao with
        | none => exact run_firstCells_none w.drew _ _ _ _
        | some a => exact run_firstCells_some w.drew _ _ a _ _ [] (by simp) (fun j u hj => by simp at hj)
      · have hao := C.addr (by omega)
        subst hao
        refine run_firstCells_some w.drew _ _ _ _ _ _ (by rw [hnl, hsize]) (fun j u hj => ?_)
        have : (⟨b, off, none⟩ : Addr).add j = ⟨b, off + j, none⟩ := by unfold Addr.add; split <;> simp_all
        rw [this]
        exact C.olds j u hj
    have hr := run_append_grow_src (P := P) w t t ty e i z ht hi hz ao l.length cap (R.flat l) hold _ ys.length (R.flat ys) hs (by omega) (by omega) (growslice_fits (by omega) (by
      rw [hby]
      exact Nat.le_trans (Nat.mul_le_mul hn hb1) (by decide)))
    have hge := grownCap_ge w (l.length + ys.length) cap e
    have hcm : grownCap w (l.length + ys.length) cap e ≤ maxLen := grownCap_le_maxLen w _ cap e (by have : (1000000 : Nat) ≤ maxLen := by decide
                                                                                                    omega)
    refine ⟨_, _, w.heap.size, hr, ⟨by simp, _, 0, _, by rw [List.length_append], ⟨by rw [List.length_append]; exact hge, fun _ => rfl, fun _ => by simp, flatR_len R _, fun j u hj => ?_, fun j hj => ?_⟩, hcm⟩, ⟨rfl, rfl, rfl, by simp, fun k hk _ => heap_alloc_old w.drew _ hk⟩, Or.inr rfl⟩
    · rw [Nat.zero_add]
      have := cell_new w.drew ((R.flat l ++ R.flat ys).toArray ++ Builtin.zeroCells z.cells (grownCap w (l.length + ys.length) cap e - (l.length + ys.length))) e j
      refine this.trans ?_
      rw [flatR_app] at hj
      have hl : j < (R.flat l ++ R.flat ys).length := (List.getElem?_eq_some_iff.1 hj).1
      rw [Array.getElem?_append_left (by simpa using hl)]
      simpa using hj
    · rw [List.length_append] at hj ⊢
      have hsz : ((R.flat l ++ R.flat ys).toArray ++ Builtin.zeroCells z.cells (grownCap w (l.length + ys.length) cap e - (l.length + ys.length))).size = (l.length + ys.length) * R.m + (grownCap w (l.length + ys.length) cap e - (l.length + ys.length)) * R.m := by
        rw [Array.size_append, size_zeroCells, hzs, List.size_toArray, List.length_append, hnl, hny, Nat.add_mul]
      constructor
      · have := cell_new w.drew ((R.flat l ++ R.flat ys).toArray ++ Builtin.zeroCells z.cells (grownCap w (l.length + ys.length) cap e - (l.length + ys.length))) e (0 + (l.length + ys.length) * R.m + j)
        refine Eq.trans (congrArg Option.isSome this) ?_
        rw [Array.getElem?_eq_getElem (by rw [hsz]; omega)]; rfl
      · have e : (w.drew.alloc (.cells ((R.flat l ++ R.flat ys).toArray ++ Builtin.zeroCells z.cells (grownCap w (l.length + ys.length) cap e - (l.length + ys.length))) e)).heap[w.heap.size]? = some (.cells ((R.flat l ++ R.flat ys).toArray ++ Builtin.zeroCells z.cells (grownCap w (l.length + ys.length) cap e - (l.length + ys.length))) e) := heap_alloc_new w.drew _
        unfold World.frozen?
        rw [e]
        rfl
theorem wpList_app_que {P : Program} {w : World} {ops : Array Oper} {rest : List Oper} {o : Oper} {a : Act} {Q : Exit → Act → World → Prop} (hgd : o.guard = none) (s x : Operand) (t : TypeId)
    (ho : o.op = .call { callee := .builtin .append, args := #[s, x], argTypes := #[t, t] }) (e : TypeId) (i : TypeInfo) (z : Value) (bytes : Nat) (ht : P.underlying t = some (.slice e)) (hi : P.info? e = some i) (hz : i.zero = some z)
    (hsize : i.size = R.m) (hby : i.bytes = bytes) (hzs : z.cells.size = R.m) {b : Nat} {v : Value} {l : List α} (hs : a.eval s = v) (h : Que R w b v l)
    (ad : Addr) (ys : List α) (m c : Nat) (hm : m = ys.length) (hx : a.eval x = .slice (some ad) m c) (hnews : ∀ j u, (R.flat ys)[j]? = some u → w.cell? (ad.add j) = some u) (h0 : 0 < m)
    (hn : l.length + ys.length ≤ 1000000) (hb1 : bytes ≤ 1000000)
    (hK : ∀ v' w' b', Que R w' b' v' (l ++ ys) → w.grownBy w' (some b) → (b' = b ∨ b' = w.heap.size) → wpList P ops Q rest (a.put o.dst v') w') : wpList P ops Q (o :: rest) a w := by
  refine wpList_plain hgd fun K hK' => ?_
  obtain ⟨v', w', b', hr, h2, h3, h4⟩ := run_app_que (P := P) (w := w) t o.type e i z bytes ht hi hz hsize hby hzs h ad ys m c hm hnews h0 hn hb1
  unfold Oper.wp execOp
  simp only [ho, resolve, invoke, builtin, Sem.run_bind, Sem.run_pure, Result.andThen_ok, List.map_toArray, List.map_cons, List.map_nil, hs, hx, hr]
  exact hK' _ _ (hK v' w' b' h2 h3 h4)
end
end Go.Proofs.YtdoifaifhikkjaaGreatDoor
