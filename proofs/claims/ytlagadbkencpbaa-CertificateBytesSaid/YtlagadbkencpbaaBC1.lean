/-
  PS, PT, ZPusP, ZSorT, PU: joined.
-/
import Derived.BigQuiet
import Derived.Test.YtlagadbkencpbaaBA1
import Derived.Test.YtlagadbkencpbaaBA2
import Derived.Test.YtlagadbkencpbaaBA3
import Derived.Test.YtlagadbkencpbaaBA4
import Derived.Test.YtlagadbkencpbaaBB1
set_option linter.unusedSimpArgs false
set_option linter.unusedVariables false
namespace Go.Proofs.Ytlagadbkencpbaa
open Go.RowKit Go.Lib

theorem infoIntS : (Try.prog.info? 3).map (fun i => (i.zero, i.size, i.bytes)) = some (some (.int .i64 0), 1, 8) := by kernel_rfl
/-- append([]int{}, xs..) -/
theorem wpList_copyI (W : World) {ops : Array Oper} {rest : List Oper} {o : Oper} {a : Act} {Q : Exit → Act → World → Prop} (hgn : o.guard = none) (s x : Operand)
    (ho : o.op = .call { callee := .builtin .append, args := #[s, x], argTypes := #[22, 22] })
    (w0 : World) (hW : W = w0.alloc (.cells #[] 3)) (hs : a.eval s = .slice (some ⟨w0.heap.size, 0, none⟩) 0 0) (A : Option Addr) (m c : Nat) (zs : List Int) (hm : m = zs.length) (hx : a.eval x = .slice A m c) (hr : Row .i64 W W.heap.size A zs) (hA : A = none → m = 0 ∧ c = 0) (hl : m ≤ 1000000)
    (h : ∀ A' c' w', Own .i64 3 w' w0.heap.size (.slice A' m c') zs → Below w0.heap.size w0 w' → wpList Try.prog ops Q rest (a.put o.dst (.slice A' m c')) w') : wpList Try.prog ops Q (o :: rest) a W := by
  obtain ⟨i0, hi, hz0, hz1, hz2⟩ := info_parts infoIntS
  subst hm
  subst hW
  refine wpList_app_src hgn s x 22 ho w0.heap.size 3 i0 (.int .i64 0) 1 8 Try.underlying22 hi hz0 hz1 hz2 rfl (by decide) _ 0 [] hs (own_empty (Nat.le_refl _)) A zs.length c (zs.map (Value.int .i64)) hx hA (by rw [List.length_map, Nat.mul_one]) hr.newsO one_cells (by unfold maxLen; omega) (by omega) (by simp) ?_
  intro v' w' hown hg
  have O : Own .i64 3 w' w0.heap.size v' zs := by
    unfold Own
    rw [Nat.zero_add, List.nil_append] at hown
    exact hown
  obtain ⟨A', c', rfl, -⟩ := O.slice
  exact h A' c' w' O (((Below.refl w0.heap.size w0).alloc (Nat.le_refl _) _).grown hg (by simp) (fun j hj => by
    have e : w0.heap.size = j := by simpa [Value.ownBlock] using hj
    omega))
theorem Own.capn {k : IntKind} {e : TypeId} {w : World} {base n c : Nat} {A : Option Addr} {zs : List Int} (h : Own k e w base (.slice A n c) zs) : n ≤ c ∧ c ≤ maxLen := by
  rcases h.2 with ⟨e, h0⟩ | ⟨g, cap, cur, e, _, _, h4, h5, _⟩
  · injection e with _ e1 e2
    subst e1; subst e2
    exact ⟨Nat.le_refl _, Nat.zero_le _⟩
  · injection e with _ e1 e2
    subst e1; subst e2
    exact ⟨h4, h5⟩
/-- The front of a list of the call's own. -/
theorem Own.front {w : World} {base g n c : Nat} {zs : List Int} (h : Own .i64 3 w base (.slice (some ⟨g, 0, none⟩) n c) zs) {i : Nat} (hi : i ≤ n) : Own .i64 3 w base (.slice (some ⟨g, 0, none⟩) i c) (zs.take i) := by
  have hn : n = zs.length := by
    obtain ⟨A, c', e, _⟩ := h.slice
    injection e
  have hl : (zs.take i).length = i := by rw [List.length_take]; omega
  unfold Own
  rw [hl]
  refine ⟨by rw [List.length_map, hl, Nat.mul_one], Or.inr ?_⟩
  rcases h.2 with ⟨e, _⟩ | ⟨g', cap, cur, e, hb, hh, h1, h2, h3, h4⟩
  · cases e
  · injection e with e1 e2 e3
    injection e1 with e1
    have e4 : g = g' := by injection e1
    subst e4; subst e3
    refine ⟨g, c, cur, rfl, hb, hh, by omega, h2, h3, ?_⟩
    rw [Nat.mul_one] at h4 ⊢
    rw [List.map_take, ← h4, List.take_take]
    congr 1
    omega
/-- append(p[:i], p[i+1:]..) : one number is removed. -/
theorem cut_any (w : World) (base : Nat) (g n c i : Nat) (zs : List Int) (h : Own .i64 3 w base (.slice (some ⟨g, 0, none⟩) n c) zs) (hi : i < n) (A : Option Addr) (d : Nat) (hA : A = if c = i + 1 then some ⟨g, 0, none⟩ else some ⟨g, i + 1, none⟩) (t : TypeId) :
    ∃ w', (Builtin.append_ #[22, 22] t #[.slice (some ⟨g, 0, none⟩) i c, .slice A (n - (i + 1)) d]).run Try.prog w = .ok (.slice (some ⟨g, 0, none⟩) (n - 1) c) w' ∧
      Own .i64 3 w' base (.slice (some ⟨g, 0, none⟩) (n - 1) c) (zs.take i ++ zs.drop (i + 1)) ∧ w.grownBy w' (some g) := by
  obtain ⟨i0, hi0, hz0, hz1, hz2⟩ := info_parts infoIntS
  have hn : n = zs.length := by
    obtain ⟨A, c', e, _⟩ := h.slice
    injection e
  have hcap : n ≤ c := by
    obtain ⟨A, c', e, _, hc, _⟩ := h.slice
    injection e with _ _ e3
    omega
  have F := h.front (Nat.le_of_lt hi)
  have hl : (zs.take i).length = i := by rw [List.length_take]; omega
  have F' : w.ownsRow base 3 1 (.slice (some ⟨g, 0, none⟩) i c) i ((zs.take i).map (Value.int .i64)) := by
    have := F
    unfold Own at this
    rwa [hl] at this
  have hdl : (zs.drop (i + 1)).length = n - (i + 1) := by rw [List.length_drop, hn]
  obtain ⟨ad, had⟩ : ∃ ad, A = some ad := by rw [hA]; split <;> exact ⟨_, rfl⟩
  have hnews : ∀ j u, ((zs.drop (i + 1)).map (Value.int .i64))[j]? = some u → w.cell? (ad.add j) = some u := fun j u hj => by
    have hj2 : j < n - (i + 1) := by
      have := (List.getElem?_eq_some_iff.1 hj).1
      rwa [List.length_map, hdl] at this
    have e : ad = ⟨g, i + 1, none⟩ := by
      have hne : ¬ c = i + 1 := by omega
      have h9 := hA.symm.trans had
      rw [if_neg hne] at h9
      exact (Option.some.inj h9).symm
    have e2 : ad.add j = ⟨g, i + 1 + j, none⟩ := by rw [e, Addr.add_lit]
    rw [e2, h.cell hn (i + 1 + j) (by omega), ← hj]
    rw [List.getElem?_map, List.getElem?_drop]
    have h3 : i + 1 + j < zs.length := by omega
    rw [List.getElem?_eq_getElem h3, List.getD_eq_getElem?_getD, List.getElem?_eq_getElem h3]
    rfl
  subst had
  obtain ⟨w', hrun, r1, r2⟩ := run_append_fits (P := Try.prog) w base 22 t 3 i0 1 Try.underlying22 hi0 hz1 g i c ((zs.take i).map (Value.int .i64)) F' ad (n - (i + 1)) d ((zs.drop (i + 1)).map (Value.int .i64)) (by rw [List.length_map, hdl, Nat.mul_one]) hnews one_cells (by omega)
  have e5 : i + (n - (i + 1)) = n - 1 := by omega
  rw [e5] at hrun r1
  refine ⟨w', hrun, ?_, r2⟩
  unfold Own
  rw [List.length_append, hl, hdl, e5, List.map_append]
  exact r1
/-- An append whose run is known, under AnyT. -/
theorem AnyT.appR' {ops : Array Oper} {Q : Exit → Act → World → Prop} {S : World → Prop} {tl : Nat → Bool} {i : Nat} {o : Oper} {fuel : Nat} {listed : Array Bool} {a : Act} {w w' : World} {d : Option Tmp} {v p q : Value} {t : TypeId} (ho : ops[i]? = some o) (hg : o.guard = none) (hd : o.dst = d) (ht : o.type = t) (s x : Operand)
    (hop : o.op = .call { callee := .builtin .append, args := #[s, x], argTypes := #[22, 22] }) (hs : a.eval s = p) (hx : a.eval x = q)
    (hrun : (Builtin.append_ #[22, 22] t #[p, q]).run Try.prog w = .ok v w') (hS : tl i = false → S w') (h : AnyT Try.prog ops Q S tl fuel (listed.setIfInBounds i true) (a.put d v) w') :
    wpOp Try.prog ops Q i (fun a' w' => (tl i = false → S w') ∧ AnyT Try.prog ops Q S tl fuel (listed.setIfInBounds i true) a' w') a w :=
  AnyT.step ho (fun KK hK => by
    subst hd
    subst ht
    rw [if_pos (by unfold Region.wanted; rw [hg])]
    unfold Oper.wp
    simp [execOp, hop, resolve, invoke, builtin, hs, hx, hrun, Result.andThen]
    exact hK.out _ _ hS h)

/-- While a proof is spoilt. -/
structure SpS (m N : Nat) (w wr : World) (b : Nat) (st : Int) (vA : Option Addr) (vn vc : Nat) (uA : Option Addr) (un uc : Nat) (v u : List Int) : Prop where
  box : QBox wr b st vA vn vc uA un uc
  res : QBox wr (b + 1) 0 none 0 0 none 0 0
  ov : Own .i64 3 wr (b + 2) (.slice vA vn vc) v
  ou : Own .i64 3 wr (b + 2) (.slice uA un uc) u
  ne : ∀ q, (Value.slice vA vn vc).ownBlock = some q → (Value.slice uA un uc).ownBlock = some q → False
  mkr : IsMk wr m N
  mov : Moves m w wr
  le : w.heap.size ≤ b
  lt : m < w.heap.size
section
variable {m N b vn vc un uc : Nat} {w wr w' : World} {st : Int} {vA uA : Option Addr} {v u : List Int}
theorem SpS.step (h : SpS m N w wr b st vA vn vc uA un uc v u) {M : Nat} (k : Moves m wr w') (q : IsMk w' m M) : SpS m M w w' b st vA vn vc uA un uc v u :=
  ⟨h.box.moves k (by have := h.le; have := h.lt; omega), h.res.moves k (by have := h.le; have := h.lt; omega), h.ov.moves k (by have := h.le; have := h.lt; omega), h.ou.moves k (by have := h.le; have := h.lt; omega), h.ne, q, h.mov.trans k, h.le, h.lt⟩
theorem SpS.below (h : SpS m N w wr b st vA vn vc uA un uc v u) (k : Below wr.heap.size wr w') : SpS m N w w' b st vA vn vc uA un uc v u := h.step (Moves.of_below k) (h.mkr.stays' k)
theorem SpS.setSt (h : SpS m N w wr b st vA vn vc uA un uc v u) (z : Int) : SpS m N w (wr.setCell ⟨b, 0, none⟩ (.int .i64 z)) b z vA vn vc uA un uc v u :=
  ⟨h.box.set0 z, h.res.setO (by show b ≠ b + 1; omega) _, h.ov.setN (p := ⟨b, 0, none⟩) (fun q e => by have := (own_block h.ov e).1; show q ≠ b; omega) _, h.ou.setN (p := ⟨b, 0, none⟩) (fun q e => by have := (own_block h.ou e).1; show q ≠ b; omega) _, h.ne,
   h.mkr.setCell (by have := h.le; have := h.lt; show m < b; omega) _, h.mov.setCell (Or.inr h.le) _, h.le, h.lt⟩
theorem SpS.setV {g : Nat} (h : SpS m N w wr b st (some ⟨g, 0, none⟩) vn vc uA un uc v u) (j : Nat) (z : Int) : SpS m N w (wr.setCell ⟨g, j, none⟩ (.int .i64 z)) b st (some ⟨g, 0, none⟩) vn vc uA un uc (v.set j z) u := by
  have hg : b + 2 ≤ g := (own_block h.ov rfl).1
  have h1 := h.le
  have h2 := h.lt
  exact ⟨h.box.setO (by show g ≠ b; omega) _, h.res.setO (by show g ≠ b + 1; omega) _, h.ov.store (own_read h.ov).1 j z, h.ou.setN (p := ⟨g, j, none⟩) (fun q e e2 => h.ne g rfl (by rw [e]; exact congrArg some e2)) _, h.ne, h.mkr.setCell (by show m < g; omega) _, h.mov.setCell (Or.inr (by show w.heap.size ≤ g; omega)) _, h.le, h.lt⟩
theorem SpS.setU {g : Nat} (h : SpS m N w wr b st vA vn vc (some ⟨g, 0, none⟩) un uc v u) (j : Nat) (z : Int) : SpS m N w (wr.setCell ⟨g, j, none⟩ (.int .i64 z)) b st vA vn vc (some ⟨g, 0, none⟩) un uc v (u.set j z) := by
  have hg : b + 2 ≤ g := (own_block h.ou rfl).1
  have h1 := h.le
  have h2 := h.lt
  exact ⟨h.box.setO (by show g ≠ b; omega) _, h.res.setO (by show g ≠ b + 1; omega) _, h.ov.setN (p := ⟨g, j, none⟩) (fun q e e2 => h.ne g (by rw [e]; exact congrArg some e2) rfl) _, h.ou.store (own_read h.ou).1 j z, h.ne, h.mkr.setCell (by show m < g; omega) _, h.mov.setCell (Or.inr (by show w.heap.size ≤ g; omega)) _, h.le, h.lt⟩
/-- The chain has been cut. -/
theorem SpS.cut {g c' n' : Nat} {u' : List Int} (h : SpS m N w wr b st vA vn vc (some ⟨g, 0, none⟩) un uc v u) (k : wr.grownBy w' (some g)) (O : Own .i64 3 w' (b + 2) (.slice (some ⟨g, 0, none⟩) n' c') u') :
    QBox w' b st vA vn vc (some ⟨g, 0, none⟩) un uc ∧ SpS m N w (w'.setCell ⟨b, 2, none⟩ (.slice (some ⟨g, 0, none⟩) n' c')) b st vA vn vc (some ⟨g, 0, none⟩) n' c' v u' := by
  have hg : b + 2 ≤ g := (own_block h.ou rfl).1
  have h1 := h.le
  have h2 := h.lt
  have B : Below (b + 2) wr w' := (Below.refl (b + 2) wr).grown k (by have := h.res.lt; omega) (fun j hj => by
    have : g = j := by injection hj
    omega)
  have X := h.box.below B (by omega)
  refine ⟨X, X.set2 _ _ _, (h.res.below B (by omega)).setO (by show b ≠ b + 1; omega) _, (h.ov.kept k ?_).setN (p := ⟨b, 2, none⟩) (fun q e => by have := (own_block h.ov e).1; show q ≠ b; omega) _, O.setN (p := ⟨b, 2, none⟩) (fun q e => by have := (own_block O e).1; show q ≠ b; omega) _, h.ne, ?_, ?_, h.le, h.lt⟩
  · cases e : (Value.slice vA vn vc).ownBlock with
    | none => exact Or.inl rfl
    | some q => exact Or.inr (fun e2 => h.ne q e (by rw [e2]; rfl))
  · exact (h.mkr.stays (B.mono (by omega))).setCell (by show m < b; omega) _
  · refine Moves.setCell ⟨k.os.trans h.mov.os, k.tape.trans h.mov.tape, k.output.trans h.mov.output, Nat.le_trans h.mov.size k.size, fun i hi hne => (B.block i (by omega)).trans (h.mov.block i hi hne)⟩ (Or.inr (by show w.heap.size ≤ b; omega)) _
end
/-- The bounds of a proof's numbers. -/
def SpB (S C : Int) (st : Int) (v : List Int) : Prop := (-S ≤ st ∧ st ≤ S) ∧ ∀ x, -C ≤ v.getD x 0 ∧ v.getD x 0 ≤ C
def SpoPost (m N : Nat) (S C : Int) (n k : Nat) (w : World) (e : Ending) (w' : World) : Prop :=
  ∃ st A c B nn d v' ch', e = .returned (qv st A n c B nn d) ∧ Own .i64 3 w' w.heap.size (.slice A n c) v' ∧ Own .i64 3 w' w.heap.size (.slice B nn d) ch' ∧ IsMk w' m (N + 3) ∧ Moves m w w' ∧ SpB (S + 1) (C + 4) st v' ∧ nn ≤ k
end Go.Proofs.Ytlagadbkencpbaa

namespace Go.Proofs.Ytlagadbkencpbaa
open Go.RowKit Go.Lib

theorem SpB.more {S C S' C' st : Int} {v : List Int} (h : SpB S C st v) (h1 : S ≤ S') (h2 : C ≤ C') : SpB S' C' st v := ⟨⟨by have := h.1; omega, by have := h.1; omega⟩, fun x => by have := h.2 x; omega⟩
theorem SpB.setV {S C st z : Int} {v : List Int} (h : SpB S C st v) {i : Nat} (hi : i < v.length) (hz : -(C + 4) ≤ z ∧ z ≤ C + 4) : SpB (S + 1) (C + 4) st (v.set i z) :=
  ⟨⟨by have := h.1; omega, by have := h.1; omega⟩, fun x => by
    have := h.2 x
    rw [getD_set _ _ _ _ hi]
    by_cases e : x = i
    · rw [if_pos e]; exact hz
    · rw [if_neg e]; omega⟩
/-- The lists of numbers that Pick is given. -/
theorem cells_pick {W : World} {cs : List Int} {P : Int → Prop} (h : ∀ z ∈ cs, P z) : ∀ i, i < cs.length → ∃ z : Int, (W.alloc (.cells (cs.map (Value.int .i64)).toArray 3)).cell? ⟨W.heap.size, i, none⟩ = some (.int .i64 z) ∧ P z :=
  fun i hi => new_pick W 3 P cs h _ rfl i hi
set_option maxRecDepth 100000 in
set_option maxHeartbeats 6400000 in
theorem spo_any (m N : Nat) (st : Int) (v u : List Int) (A B : Option Addr) (n c nn d : Nat) (S C : Int) (w : World) (K : IsMk w m N) (hN : N ≤ 900000) (hn : n = v.length) (hnn : nn = u.length) (hr : Row .i64 w w.heap.size A v) (hru : Row .i64 w w.heap.size B u)
    (hA : A = none → n = 0 ∧ c = 0) (hB : B = none → nn = 0 ∧ d = 0) (hl : n ≤ 1000000) (hul : nn ≤ 1000000) (hS : 0 ≤ S ∧ S ≤ 1000000) (hC : 0 ≤ C ∧ C ≤ 1000000) (hb : SpB S C st v) :
    Calls Try.prog 17 #[.pointer (some ⟨m, 0, none⟩), qv st A n c B nn d] w (SpoPost m N S C n nn w) := by
  have hlt : m < w.heap.size := K.lt
  have B1 := (Below.refl w.heap.size w).alloc (Nat.le_refl _) (qcells st A n c B nn d)
  have s1 : (w.alloc (qcells st A n c B nn d)).heap.size = w.heap.size + 1 := by simp
  have b2 := (Below.refl (w.heap.size + 1) (w.alloc (qcells st A n c B nn d))).alloc (Nat.le_of_eq s1.symm) (qcells 0 none 0 0 none 0 0)
  have BB := B1.trans (b2.mono (Nat.le_succ _))
  have X0 := Lib.hid ((QBox.new (w := w) (st := st) (A := A) (n := n) (c := c) (B := B) (m := nn) (d := d) w.heap.size rfl).below b2 (Nat.lt_succ_self _))
  have R0 := Lib.hid (QBox.new (w := w.alloc (qcells st A n c B nn d)) (st := 0) (A := none) (n := 0) (c := 0) (B := none) (m := 0) (d := 0) (w.heap.size + 1) s1.symm)
  have K0 := Lib.hid (K.stays' BB)
  have HB0 := Lib.hid BB
  have HR := Lib.hid hr
  have HRU := Lib.hid hru
  have HN := Lib.hid hn
  have HNN := Lib.hid hnn
  have HBD := Lib.hid hb
  obtain ⟨b, hbq⟩ : ∃ b, b = w.heap.size := ⟨_, rfl⟩
  have hBQ := Lib.hid hbq
  have HFIN := Lib.hid (fun (wr : World) (st' : Int) (M : Nat) (vA uA : Option Addr) (vc un uc : Nat) (v' u' : List Int) (X : SpS m M w wr b st' vA n vc uA un uc v' u') (hM : M ≤ N + 3) (hb' : SpB (S + 1) (C + 4) st' v') (hun : un ≤ nn) =>
    show SpoPost m N S C n nn w (.returned (qv st' vA n vc uA un uc)) (((wr.setCell ⟨b + 1, 0, none⟩ (.int .i64 st')).setCell ⟨b + 1, 1, none⟩ (.slice vA n vc)).setCell ⟨b + 1, 2, none⟩ (.slice uA un uc)) from by
      have h1 := X.le
      have nv : ∀ q, (Value.slice vA n vc).ownBlock = some q → q ≠ b + 1 := fun q e => by have := (own_block X.ov e).1; omega
      have nu : ∀ q, (Value.slice uA un uc).ownBlock = some q → q ≠ b + 1 := fun q e => by have := (own_block X.ou e).1; omega
      refine ⟨st', vA, vc, uA, un, uc, v', u', rfl, (((X.ov.base (by omega)).setN (p := ⟨b + 1, 0, none⟩) nv _).setN (p := ⟨b + 1, 1, none⟩) nv _).setN (p := ⟨b + 1, 2, none⟩) nv _, (((X.ou.base (by omega)).setN (p := ⟨b + 1, 0, none⟩) nu _).setN (p := ⟨b + 1, 1, none⟩) nu _).setN (p := ⟨b + 1, 2, none⟩) nu _, ?_, ?_, hb', hun⟩
      · exact (((X.mkr.more hM).setCell (p := ⟨b + 1, 0, none⟩) (by show m < b + 1; omega) _).setCell (p := ⟨b + 1, 1, none⟩) (by show m < b + 1; omega) _).setCell (p := ⟨b + 1, 2, none⟩) (by show m < b + 1; omega) _
      · exact ((X.mov.setCell (p := ⟨b + 1, 0, none⟩) (Or.inr (by show w.heap.size ≤ b + 1; omega)) _).setCell (p := ⟨b + 1, 1, none⟩) (Or.inr (by show w.heap.size ≤ b + 1; omega)) _).setCell (p := ⟨b + 1, 2, none⟩) (Or.inr (by show w.heap.size ≤ b + 1; omega)) _)
  clear B1 s1 b2 BB K hn hnn hr hru hb
  go_enter Try.func17, Try.ntmps17
  go_upto_region 1 with fail
  rw [← hbq] at X0 R0 hlt ⊢
  generalize (w.alloc (qcells st A n c B nn d)).alloc (qcells 0 none 0 0 none 0 0) = w1 at *
  clear hbq
  have hbl : b + 1 < w1.heap.size := R0.out.lt
  obtain ⟨x0, x1, x2, -, xl⟩ := X0.out
  have HRA := Lib.hid ((HR.out.below HB0.out).below ((Below.refl w1.heap.size w1).alloc (Nat.le_refl _) (.cells #[] 3)))
  go_upto_region 2 with (first | (at_builtin; refine wpList_copyI _ rfl (.tmp 8) (.tmp 11) rfl w1 rfl rfl A n c v HN.out rfl HRA.out hA hl ?_; intro vA vc w2 O2 B2; have X2 := Lib.hid (X0.out.below B2 X0.out.lt); obtain ⟨y0, y1, y2, yf, yl⟩ := X2.out; have yf1 := yf 1; clear yf x0 x1 x2 xl))
  have hbv : ∀ q, (Value.slice vA n vc).ownBlock = some q → b + 2 ≤ q ∧ q < w2.heap.size := fun q e => by have := own_block O2 e; omega
  have X3 := Lib.hid (X2.out.set1 vA n vc)
  have R3 := Lib.hid ((R0.out.below B2 R0.out.lt).setO (p := ⟨b, 1, none⟩) (by show b ≠ b + 1; omega) (.slice vA n vc))
  have O3 := Lib.hid ((O2.base (show b + 2 ≤ w1.heap.size by omega)).setN (p := ⟨b, 1, none⟩) (fun q e => by have := (hbv q e).1; show q ≠ b; omega) (.slice vA n vc))
  have K3 := Lib.hid ((K0.out.stays' B2).setCell (p := ⟨b, 1, none⟩) (by show m < b; exact hlt) (.slice vA n vc))
  have HB3 := Lib.hid ((HB0.out.trans (B2.mono HB0.out.size)).setCell (p := ⟨b, 1, none⟩) (by rw [hBQ.out]; exact Nat.le_refl _) (.slice vA n vc))
  have hbv3 := Lib.hid (show ∀ q, (Value.slice vA n vc).ownBlock = some q → b + 2 ≤ q ∧ q < (w2.setCell ⟨b, 1, none⟩ (.slice vA n vc)).heap.size from fun q e => by rw [World.size_setCell]; exact hbv q e)
  clear O2 B2 X2 R0 K0 HB0 X0 HRA hbv
  generalize w2.setCell ⟨b, 1, none⟩ (.slice vA n vc) = w3 at *
  clear y0 y1 y2 yl yf1
  obtain ⟨x0, x1, x2, -, xl⟩ := X3.out
  have HRA := Lib.hid ((HRU.out.below HB3.out).below ((Below.refl w3.heap.size w3).alloc (Nat.le_refl _) (.cells #[] 3)))
  have hbl3 : b + 1 < w3.heap.size := R3.out.lt
  go_upto_region 3 with (first | (at_builtin; refine wpList_copyI _ rfl (.tmp 15) (.tmp 17) rfl w3 rfl rfl B nn d u HNN.out rfl HRA.out hB hul ?_; intro uA uc w4 O4 B4; have X4 := Lib.hid (X3.out.below B4 X3.out.lt); obtain ⟨y0, y1, y2, yf, yl⟩ := X4.out; have yf2 := yf 2; clear yf x0 x1 x2 xl))
  have hbu : ∀ q, (Value.slice uA nn uc).ownBlock = some q → w3.heap.size ≤ q := fun q e => (own_block O4 e).1
  have SP := Lib.hid (show SpS m N w (w4.setCell ⟨b, 2, none⟩ (.slice uA nn uc)) b st vA n vc uA nn uc v u from
    ⟨X4.out.set2 uA nn uc, (R3.out.below B4 R3.out.lt).setO (p := ⟨b, 2, none⟩) (by show b ≠ b + 1; omega) _, (O3.out.below B4).setN (p := ⟨b, 2, none⟩) (fun q e => by have := (hbv3.out q e).1; show q ≠ b; omega) _, (O4.base (show b + 2 ≤ w3.heap.size by omega)).setN (p := ⟨b, 2, none⟩) (fun q e => by have := hbu q e; show q ≠ b; omega) _,
     fun q e e2 => by have := (hbv3.out q e).2; have := hbu q e2; omega, (K3.out.stays' B4).setCell (p := ⟨b, 2, none⟩) (by show m < b; exact hlt) _, Moves.of_below ((HB3.out.trans (B4.mono HB3.out.size)).setCell (p := ⟨b, 2, none⟩) (by rw [hBQ.out]; exact Nat.le_refl _) _), by rw [hBQ.out]; exact Nat.le_refl _, by rw [← hBQ.out]; exact hlt⟩)
  clear O4 B4 X4 R3 K3 HB3 X3 HRA O3 hbv3 hbu hbl hbl3
  generalize w4.setCell ⟨b, 2, none⟩ (.slice uA nn uc) = w5 at *
  clear y0 y1 y2 yl yf2
  go_wp2_with fail
  refine (next_any m N 6 w5 SP.out.mkr (by omega) (by omega) (by omega)).mono ?_
  rintro e w6 ⟨sel, rfl, sl1, sl2, k1, k2⟩
  have S6 := Lib.hid (SP.out.step k2 k1)
  clear SP k1 k2 HR HRU hA hB
  have s16 : sel ≤ 5 := by omega
  clear sl2
  by_cases hv2 : sel < 2 ∧ 0 < n
  · obtain ⟨hv2, hn0⟩ := hv2
    have hn0i : (0 : Int) < (n : Int) := by omega
    obtain ⟨gv, rfl⟩ : ∃ g, vA = some ⟨g, 0, none⟩ := by
      obtain ⟨A', c', e, -, -, -, hp⟩ := S6.out.ov.slice
      obtain ⟨g, hg, -⟩ := hp (by rw [← HN.out]; exact hn0)
      injection e with e
      exact ⟨g, by rw [e, hg]⟩
    obtain ⟨x0, x1, x2, -, xl⟩ := S6.out.box
    go_wp2_with fail
    refine (next_any m (N + 1) (n : Int) w6 S6.out.mkr (by omega) (by omega) (by omega)).mono ?_
    rintro e w7 ⟨iv, rfl, iv1, iv2, k1, k2⟩
    have S7 := Lib.hid (S6.out.step k2 k1)
    clear S6 k1 k2 x0 x1 x2 xl
    obtain ⟨i, rfl⟩ := Int.eq_ofNat_of_zero_le iv1
    have hiL : i < n := by omega
    have hiI : (i : Int) < (n : Int) := by omega
    have hiv : i < v.length := by rw [← HN.out]; exact hiL
    have HX := Lib.hid (HBD.out.2 i)
    have HSB := Lib.hid (fun z (hz : -(C + 4) ≤ z ∧ z ≤ C + 4) => HBD.out.setV hiv hz)
    obtain ⟨x, hx⟩ : ∃ x, x = v.getD i 0 := ⟨_, rfl⟩
    have HPS := Lib.hid (fun (X : World) (M : Nat) (h : SpS m M w X b st (some ⟨gv, 0, none⟩) n vc uA nn uc v u) => (show X.cell? ⟨b, 1, none⟩ = some (.slice (some ⟨gv, 0, none⟩) n vc) ∧ X.cell? ⟨gv, i, none⟩ = some (.int .i64 x) from ⟨h.box.c1, by rw [hx]; exact h.ov.cell HN.out i hiv⟩))
    rw [← hx] at HX
    clear hx iv1 iv2
    go_upto_region 7 with fail
    obtain ⟨q0, e0⟩ : ∃ x, x = w7.drew := ⟨_, rfl⟩
    have T0 := Lib.hid (show SpS m (N + 1 + 1) w q0 b st (some ⟨gv, 0, none⟩) n vc uA nn uc v u from by rw [e0]; exact S7.out.below ((Below.refl _ _).drew))
    have F0 := HPS.out q0 _ T0.out
    have HE0 := Lib.hid e0
    clear e0 S7
    refine AnyT.begin_at (tlGe 16) (fun X => X.cell? ⟨b, 1, none⟩ = some (.slice (some ⟨gv, 0, none⟩) n vc) ∧ X.cell? ⟨gv, i, none⟩ = some (.int .i64 x)) (by kernel_rfl) HE0.out F0 ?_
    clear F0 HE0
    intro F0
    refine AnyT.takeD (i := 0) (d := some 47) (v := .pointer (some ⟨b, 0, none⟩)) rfl rfl (by kernel_rfl) (by kernel_rfl) (by kernel_rfl) (by kernel_rfl) (fun _ _ _ h => h) (Or.inl ⟨by rfl, fun wz _ => by go_simp⟩) F0 ?_
    simp only [Act.put, List.setIfInBounds_toArray, List.set_cons_zero, List.set_cons_succ]
    refine AnyT.takeD (i := 1) (d := some 48) (v := .pointer (some ⟨b, 1, none⟩)) rfl rfl (by kernel_rfl) (by kernel_rfl) (by kernel_rfl) (by kernel_rfl) (fun _ _ _ h => h) (Or.inl ⟨by rfl, fun wz _ => by go_simp⟩) F0 ?_
    simp only [Act.put, List.setIfInBounds_toArray, List.set_cons_zero, List.set_cons_succ]
    refine AnyT.takeD (i := 2) (d := some 49) (v := .slice (some ⟨gv, 0, none⟩) n vc) rfl rfl (by kernel_rfl) (by kernel_rfl) (by kernel_rfl) (by kernel_rfl) (fun _ _ _ h => h) (Or.inl ⟨by rfl, fun wz hz => by obtain ⟨z0, z1⟩ := hz; go_simp⟩) F0 ?_
    simp only [Act.put, List.setIfInBounds_toArray, List.set_cons_zero, List.set_cons_succ]
    refine AnyT.takeD (i := 3) (d := some 50) (v := .int .i64 (i : Int)) rfl rfl (by kernel_rfl) (by kernel_rfl) (by kernel_rfl) (by kernel_rfl) (fun _ _ _ h => h) (Or.inl ⟨by rfl, fun wz _ => by go_simp⟩) F0 ?_
    simp only [Act.put, List.setIfInBounds_toArray, List.set_cons_zero, List.set_cons_succ]
    refine AnyT.takeD (i := 4) (d := some 51) (v := .pointer (some ⟨b, 0, none⟩)) rfl rfl (by kernel_rfl) (by kernel_rfl) (by kernel_rfl) (by kernel_rfl) (fun _ _ _ h => h) (Or.inl ⟨by rfl, fun wz _ => by go_simp⟩) F0 ?_
    simp only [Act.put, List.setIfInBounds_toArray, List.set_cons_zero, List.set_cons_succ]
    refine AnyT.takeD (i := 5) (d := some 52) (v := .pointer (some ⟨b, 1, none⟩)) rfl rfl (by kernel_rfl) (by kernel_rfl) (by kernel_rfl) (by kernel_rfl) (fun _ _ _ h => h) (Or.inl ⟨by rfl, fun wz _ => by go_simp⟩) F0 ?_
    simp only [Act.put, List.setIfInBounds_toArray, List.set_cons_zero, List.set_cons_succ]
    refine AnyT.takeD (i := 6) (d := some 53) (v := .slice (some ⟨gv, 0, none⟩) n vc) rfl rfl (by kernel_rfl) (by kernel_rfl) (by kernel_rfl) (by kernel_rfl) (fun _ _ _ h => h) (Or.inl ⟨by rfl, fun wz hz => by obtain ⟨z0, z1⟩ := hz; go_simp⟩) F0 ?_
    simp only [Act.put, List.setIfInBounds_toArray, List.set_cons_zero, List.set_cons_succ]
    refine AnyT.takeD (i := 7) (d := some 54) (v := .int .i64 (i : Int)) rfl rfl (by kernel_rfl) (by kernel_rfl) (by kernel_rfl) (by kernel_rfl) (fun _ _ _ h => h) (Or.inl ⟨by rfl, fun wz _ => by go_simp⟩) F0 ?_
    simp only [Act.put, List.setIfInBounds_toArray, List.set_cons_zero, List.set_cons_succ]
    refine AnyT.takeD (i := 8) (d := some 55) (v := .pointer (some ⟨gv, i, none⟩)) rfl rfl (by kernel_rfl) (by kernel_rfl) (by kernel_rfl) (by kernel_rfl) (fun _ _ _ h => h) (Or.inl ⟨by rfl, fun wz _ => by go_simp⟩) F0 ?_
    simp only [Act.put, List.setIfInBounds_toArray, List.set_cons_zero, List.set_cons_succ]
    refine AnyT.takeD (i := 9) (d := some 56) (v := .int .i64 x) rfl rfl (by kernel_rfl) (by kernel_rfl) (by kernel_rfl) (by kernel_rfl) (fun _ _ _ h => h) (Or.inl ⟨by rfl, fun wz hz => by obtain ⟨z0, z1⟩ := hz; go_simp⟩) F0 ?_
    simp only [Act.put, List.setIfInBounds_toArray, List.set_cons_zero, List.set_cons_succ]
    refine AnyT.takeD (i := 10) (d := some 57) (v := .pointer (some ⟨m, 0, none⟩)) rfl rfl (by kernel_rfl) (by kernel_rfl) (by kernel_rfl) (by kernel_rfl) (fun _ _ _ h => h) (Or.inl ⟨by rfl, fun wz _ => by go_simp⟩) F0 ?_
    simp only [Act.put, List.setIfInBounds_toArray, List.set_cons_zero, List.set_cons_succ]
    refine AnyT.branch (rs := [11]) (by kernel_rfl) (by simp) ?_
    refine all_cons (?_) all_nil
    obtain ⟨q1, e1⟩ : ∃ q, q = q0.alloc (.cells #[.int .i64 (-1), .int .i64 1, .int .i64 2, .int .i64 (-4), .int .i64 4] 3) := ⟨_, rfl⟩
    have T1 := Lib.hid (show SpS m (N + 1 + 1) w q1 b st (some ⟨gv, 0, none⟩) n vc uA nn uc v u from by rw [e1]; exact T0.out.below ((Below.refl _ _).alloc (Nat.le_refl _) _))
    have F1 := HPS.out q1 _ T1.out
    have HPK := Lib.hid (show ∀ j, j < 5 → ∃ z : Int, q1.cell? ⟨q0.heap.size, j, none⟩ = some (.int .i64 z) ∧ (-4 ≤ z ∧ z ≤ 4) from by rw [e1]; exact cells_pick (W := q0) (cs := [-1, 1, 2, -4, 4]) (P := fun z => -4 ≤ z ∧ z ≤ 4) (by decide))
    have hq01 : q0.heap.size < q1.heap.size := by rw [e1]; simp
    have hmq : m < q0.heap.size := T0.out.mkr.lt
    refine AnyT.yield (i := 11) (d := some 58) (v := .slice (some ⟨q0.heap.size, 0, none⟩) 5 5) (w' := q1) rfl rfl rfl (by rw [e1]; go_simp) (fun _ => F1) ?_
    clear e1 F0
    simp only [Act.put, List.setIfInBounds_toArray, List.set_cons_zero, List.set_cons_succ]
    refine AnyT.branch (rs := [12]) (by kernel_rfl) (by simp) ?_
    refine all_cons (?_) all_nil
    refine AnyT.enter (i := 12) (d := some 59) (f := 36) (args := #[.pointer (some ⟨m, 0, none⟩), .slice (some ⟨q0.heap.size, 0, none⟩) 5 5]) rfl rfl rfl (by go_simp) (pick_any m (N + 1 + 1) (fun z => -4 ≤ z ∧ z ≤ 4) q0.heap.size 5 5 q1 T1.out.mkr (by omega) (by omega) (by omega) (by omega) hq01 HPK.out) ?_
    rintro e q2 ⟨z, rfl, hz, k1, k2⟩
    have T2 := Lib.hid (T1.out.step k2 k1)
    have F2 := HPS.out q2 _ T2.out
    refine ⟨_, rfl, fun _ => F2, ?_⟩
    clear F1 k1 k2 T1 T0 HPK
    simp only [Act.put, List.setIfInBounds_toArray, List.set_cons_zero, List.set_cons_succ]
    have hx0 := HX.out
    have hwr : IntKind.i64.wrap (x + z) = x + z := IntWalk.i64_in _ (by omega)
    obtain ⟨mz, hmz⟩ : ∃ k, k = max2 0 (x + z) := ⟨_, rfl⟩
    have hmx : ∀ w ts t, (Builtin.max_ ts t #[.int .i64 0, .int .i64 (x + z)]).run Try.prog w = .ok (.int .i64 mz) w := fun w ts t => by rw [run_max2, hmz]
    have HMZ := Lib.hid (show -(C + 4) ≤ mz ∧ mz ≤ C + 4 by rw [hmz]; unfold max2; split <;> omega)
    clear hmz
    refine AnyT.takeD (i := 13) (d := some 60) (v := .int .i64 (x + z)) rfl rfl (by kernel_rfl) (by kernel_rfl) (by kernel_rfl) (by kernel_rfl) (fun _ _ _ h => h) (Or.inl ⟨by rfl, fun wz _ => by go_simp⟩) F2 ?_
    simp only [Act.put, List.setIfInBounds_toArray, List.set_cons_zero, List.set_cons_succ]
    refine AnyT.takeD (i := 14) (d := some 61) (v := .int .i64 mz) rfl rfl (by kernel_rfl) (by kernel_rfl) (by kernel_rfl) (by kernel_rfl) (fun _ _ _ h => h) (Or.inl ⟨by rfl, fun wz _ => by go_simp⟩) F2 ?_
    simp only [Act.put, List.setIfInBounds_toArray, List.set_cons_zero, List.set_cons_succ]
    refine AnyT.takeD (i := 15) (d := some 62) (v := .pointer (some ⟨gv, i, none⟩)) rfl rfl (by kernel_rfl) (by kernel_rfl) (by kernel_rfl) (by kernel_rfl) (fun _ _ _ h => h) (Or.inl ⟨by rfl, fun wz _ => by go_simp⟩) F2 ?_
    simp only [Act.put, List.setIfInBounds_toArray, List.set_cons_zero, List.set_cons_succ]
    refine AnyT.branch (rs := [16]) (by kernel_rfl) (by simp) ?_
    refine all_cons (?_) all_nil
    have hfz := T2.out.ov.frozen HN.out i
    obtain ⟨z0, z1⟩ := F2
    have T3 := Lib.hid (T2.out.setV i mz)
    refine AnyT.step (i := 16) rfl (fun KK hK => ?_)
    go_simp
    refine hK.out _ _ (fun h => absurd h (by decide)) ?_
    clear hK KK z0 z1 hfz hmx hwr hx0
    refine AnyT.done_ (by kernel_rfl) ?_ _
    have HB4 := Lib.hid (HSB.out mz HMZ.out)
    clear HPS HSB HMZ T2
    generalize q2.setCell ⟨gv, i, none⟩ (.int .i64 mz) = q3 at *
    obtain ⟨x0, x1, x2, -, xl⟩ := T3.out.box
    obtain ⟨r0, r1, r2, rf, rl⟩ := T3.out.res
    have f0 := rf 0
    have f1 := rf 1
    have f2 := rf 2
    clear rf
    go_wp2_with fail
    refine bodyPost_ret (results_proof1 rfl _ _ (b + 1) st (some ⟨gv, 0, none⟩) uA n vc nn uc rfl (T3.out.res.put st (some ⟨gv, 0, none⟩) n vc uA nn uc)) rfl ?_
    exact HFIN.out q3 st _ _ _ vc nn uc _ _ T3.out (by omega) HB4.out (Nat.le_refl _)
  · go_upto_region 5 with fail
    obtain ⟨x0, x1, x2, -, xl⟩ := S6.out.box
    go_cut [31] from 32 to 40 (fun cv wx => cv = .bool false ∧ Hid (wx = w6))
    case first =>
      by_cases h2 : sel < 2
      · have hn0 : ¬ (0 : Int) < (n : Int) := by omega
        go_wp2_with fail
        go_meet
        case rel => exact ⟨by rw [decide_eq_false (by omega)], Lib.hid rfl⟩
      · go_wp2_with fail
        go_meet
        case rel => exact ⟨rfl, Lib.hid rfl⟩
    case rest =>
    obtain ⟨rfl, HW⟩ := hcut
    have hwc := HW.out
    subst hwc
    clear HW hv2
    by_cases hv4 : sel < 4 ∧ 0 < nn
    · obtain ⟨hv4, hn0⟩ := hv4
      have hn0i : (0 : Int) < (nn : Int) := by omega
      obtain ⟨gu, rfl⟩ : ∃ g, uA = some ⟨g, 0, none⟩ := by
        obtain ⟨A', c', e, -, -, -, hp⟩ := S6.out.ou.slice
        obtain ⟨g, hg, -⟩ := hp (by rw [← HNN.out]; exact hn0)
        injection e with e
        exact ⟨g, by rw [e, hg]⟩
      go_wp2_with fail
      refine (next_any m (N + 1) (nn : Int) _ S6.out.mkr (by omega) (by omega) (by omega)).mono ?_
      rintro e w7 ⟨iv, rfl, iv1, iv2, k1, k2⟩
      have S7 := Lib.hid (S6.out.step k2 k1)
      clear S6 k1 k2 x0 x1 x2 xl
      obtain ⟨i, rfl⟩ := Int.eq_ofNat_of_zero_le iv1
      have hiL : i < nn := by omega
      have hiI : (i : Int) < (nn : Int) := by omega
      have hcap := S7.out.ou.capn
      obtain ⟨hcp1, hcp2⟩ := hcap
      have hcp3 : uc ≤ 9223372036854775807 := hcp2
      have HPS := Lib.hid (fun (X : World) (M : Nat) (h : SpS m M w X b st vA n vc (some ⟨gu, 0, none⟩) nn uc v u) => (show X.cell? ⟨b, 2, none⟩ = some (.slice (some ⟨gu, 0, none⟩) nn uc) from h.box.c2))
      clear iv1 iv2 hcp2
      go_upto_region 10 with fail
      obtain ⟨q0, e0⟩ : ∃ x, x = w7.drew := ⟨_, rfl⟩
      have T0 := Lib.hid (show SpS m (N + 1 + 1) w q0 b st vA n vc (some ⟨gu, 0, none⟩) nn uc v u from by rw [e0]; exact S7.out.below ((Below.refl _ _).drew))
      have F0 := HPS.out q0 _ T0.out
      have HE0 := Lib.hid e0
      clear e0 S7
      refine AnyT.begin_at (tlGe 11) (fun X => X.cell? ⟨b, 2, none⟩ = some (.slice (some ⟨gu, 0, none⟩) nn uc)) (by kernel_rfl) HE0.out F0 ?_
      clear F0 HE0
      intro F0
      have hwi : IntKind.i64.wrap ((i : Int) + 1) = (i : Int) + 1 := IntWalk.i64_in _ (by omega)
      have t1 : ((i : Int) + 1).toNat = i + 1 := by omega
      have t2 : (i : Int) ≤ (nn : Int) := by omega
      have t3 : (i : Int) + 1 ≤ (nn : Int) := by omega
      have t4 : (nn : Int) ≤ (uc : Int) := by omega
      have t5 : (i : Int) ≤ (uc : Int) := by omega
      have t6 : (0 : Int) ≤ (i : Int) + 1 := by omega
      refine AnyT.takeD (i := 0) (d := some 77) (v := .pointer (some ⟨b, 2, none⟩)) rfl rfl (by kernel_rfl) (by kernel_rfl) (by kernel_rfl) (by kernel_rfl) (fun _ _ _ h => h) (Or.inl ⟨by rfl, fun wz _ => by go_simp⟩) F0 ?_
      simp only [Act.put, List.setIfInBounds_toArray, List.set_cons_zero, List.set_cons_succ]
      refine AnyT.takeD (i := 1) (d := some 78) (v := .slice (some ⟨gu, 0, none⟩) nn uc) rfl rfl (by kernel_rfl) (by kernel_rfl) (by kernel_rfl) (by kernel_rfl) (fun _ _ _ h => h) (Or.inl ⟨by rfl, fun wz hz => by have z0 := hz; go_simp⟩) F0 ?_
      simp only [Act.put, List.setIfInBounds_toArray, List.set_cons_zero, List.set_cons_succ]
      refine AnyT.takeD (i := 2) (d := some 79) (v := .int .i64 (i : Int)) rfl rfl (by kernel_rfl) (by kernel_rfl) (by kernel_rfl) (by kernel_rfl) (fun _ _ _ h => h) (Or.inl ⟨by rfl, fun wz _ => by go_simp⟩) F0 ?_
      simp only [Act.put, List.setIfInBounds_toArray, List.set_cons_zero, List.set_cons_succ]
      refine AnyT.takeD (i := 3) (d := some 80) (v := .slice (some ⟨gu, 0, none⟩) i uc) rfl rfl (by kernel_rfl) (by kernel_rfl) (by kernel_rfl) (by kernel_rfl) (fun _ _ _ h => h) (Or.inl ⟨by rfl, fun wz _ => by go_simp⟩) F0 ?_
      simp only [Act.put, List.setIfInBounds_toArray, List.set_cons_zero, List.set_cons_succ]
      refine AnyT.takeD (i := 4) (d := some 81) (v := .pointer (some ⟨b, 2, none⟩)) rfl rfl (by kernel_rfl) (by kernel_rfl) (by kernel_rfl) (by kernel_rfl) (fun _ _ _ h => h) (Or.inl ⟨by rfl, fun wz _ => by go_simp⟩) F0 ?_
      simp only [Act.put, List.setIfInBounds_toArray, List.set_cons_zero, List.set_cons_succ]
      refine AnyT.takeD (i := 5) (d := some 82) (v := .slice (some ⟨gu, 0, none⟩) nn uc) rfl rfl (by kernel_rfl) (by kernel_rfl) (by kernel_rfl) (by kernel_rfl) (fun _ _ _ h => h) (Or.inl ⟨by rfl, fun wz hz => by have z0 := hz; go_simp⟩) F0 ?_
      simp only [Act.put, List.setIfInBounds_toArray, List.set_cons_zero, List.set_cons_succ]
      refine AnyT.takeD (i := 6) (d := some 83) (v := .int .i64 (i : Int)) rfl rfl (by kernel_rfl) (by kernel_rfl) (by kernel_rfl) (by kernel_rfl) (fun _ _ _ h => h) (Or.inl ⟨by rfl, fun wz _ => by go_simp⟩) F0 ?_
      simp only [Act.put, List.setIfInBounds_toArray, List.set_cons_zero, List.set_cons_succ]
      refine AnyT.takeD (i := 7) (d := some 84) (v := .int .i64 ((i : Int) + 1)) rfl rfl (by kernel_rfl) (by kernel_rfl) (by kernel_rfl) (by kernel_rfl) (fun _ _ _ h => h) (Or.inl ⟨by rfl, fun wz _ => by go_simp⟩) F0 ?_
      simp only [Act.put, List.setIfInBounds_toArray, List.set_cons_zero, List.set_cons_succ]
      refine AnyT.takeD (i := 8) (d := some 85) (v := .slice (if uc = i + 1 then some ⟨gu, 0, none⟩ else some ⟨gu, i + 1, none⟩) (nn - (i + 1)) (uc - (i + 1))) rfl rfl (by kernel_rfl) (by kernel_rfl) (by kernel_rfl) (by kernel_rfl) (fun _ _ _ h => h) (Or.inl ⟨by rfl, fun wz _ => by go_simp⟩) F0 ?_
      simp only [Act.put, List.setIfInBounds_toArray, List.set_cons_zero, List.set_cons_succ]
      refine AnyT.branch (rs := [9]) (by kernel_rfl) (by simp) ?_
      refine all_cons (?_) all_nil
      obtain ⟨q1, hrun, O1, G1⟩ := cut_any q0 (b + 2) gu nn uc i u T0.out.ou hiL _ (uc - (i + 1)) rfl 22
      obtain ⟨X1, T1⟩ := T0.out.cut G1 O1
      have F1 := X1.c2
      refine AnyT.appR' (i := 9) (d := some 86) (v := .slice (some ⟨gu, 0, none⟩) (nn - 1) uc) (w' := q1) (t := 22) rfl rfl rfl rfl (.tmp 80) (.tmp 85) rfl rfl rfl hrun (fun _ => F1) ?_
      simp only [Act.put, List.setIfInBounds_toArray, List.set_cons_zero, List.set_cons_succ]
      clear F0 hrun O1 G1 T0 hwi t1 t2 t3 t4 t5 t6
      generalize (if uc = i + 1 then some (⟨gu, 0, none⟩ : Addr) else some ⟨gu, i + 1, none⟩) = cA
      refine AnyT.takeD (i := 10) (d := some 87) (v := .pointer (some ⟨b, 2, none⟩)) rfl rfl (by kernel_rfl) (by kernel_rfl) (by kernel_rfl) (by kernel_rfl) (fun _ _ _ h => h) (Or.inl ⟨by rfl, fun wz _ => by go_simp⟩) F1 ?_
      simp only [Act.put, List.setIfInBounds_toArray, List.set_cons_zero, List.set_cons_succ]
      refine AnyT.branch (rs := [11]) (by kernel_rfl) (by simp) ?_
      refine all_cons (?_) all_nil
      have hfz := X1.f 2
      have T3 := Lib.hid T1
      clear T1
      refine AnyT.step (i := 11) rfl (fun KK hK => ?_)
      go_simp
      refine hK.out _ _ (fun h => absurd h (by decide)) ?_
      clear hK KK F1 hfz X1
      refine AnyT.done_ (by kernel_rfl) ?_ _
      clear HPS
      generalize q1.setCell ⟨b, 2, none⟩ (.slice (some ⟨gu, 0, none⟩) (nn - 1) uc) = q3 at *
      obtain ⟨x0, x1, x2, -, xl⟩ := T3.out.box
      obtain ⟨r0, r1, r2, rf, rl⟩ := T3.out.res
      have f0 := rf 0
      have f1 := rf 1
      have f2 := rf 2
      clear rf
      go_wp2_with fail
      refine bodyPost_ret (results_proof1 rfl _ _ (b + 1) st vA (some ⟨gu, 0, none⟩) n vc (nn - 1) uc rfl (T3.out.res.put st vA n vc (some ⟨gu, 0, none⟩) (nn - 1) uc)) rfl ?_
      exact HFIN.out q3 st _ _ _ vc (nn - 1) uc _ _ T3.out (by omega) (HBD.out.more (by omega) (by omega)) (by omega)
    · go_upto_region 8 with fail
      obtain ⟨x0, x1, x2, -, xl⟩ := S6.out.box
      go_cut [63] from 64 to 71 (fun cv wx => cv = .bool false ∧ Hid (wx = wc))
      case first =>
        by_cases h2 : sel < 4
        · have hn0 : ¬ (0 : Int) < (nn : Int) := by omega
          go_wp2_with fail
          go_meet
          case rel => exact ⟨by rw [decide_eq_false (by omega)], Lib.hid rfl⟩
        · go_wp2_with fail
          go_meet
          case rel => exact ⟨rfl, Lib.hid rfl⟩
      case rest =>
      obtain ⟨rfl, HW⟩ := hcut
      have hwc := HW.out
      subst hwc
      clear HW hv4
      by_cases hv5 : sel = 4 ∧ 0 < nn
      · obtain ⟨hv5, hn0⟩ := hv5
        subst hv5
        have hn0i : (0 : Int) < (nn : Int) := by omega
        obtain ⟨gu, rfl⟩ : ∃ g, uA = some ⟨g, 0, none⟩ := by
          obtain ⟨A', c', e, -, -, -, hp⟩ := S6.out.ou.slice
          obtain ⟨g, hg, -⟩ := hp (by rw [← HNN.out]; exact hn0)
          injection e with e
          exact ⟨g, by rw [e, hg]⟩
        obtain ⟨x0, x1, x2, -, xl⟩ := S6.out.box
        have HPS := Lib.hid (fun (X : World) (M : Nat) (h : SpS m M w X b st vA n vc (some ⟨gu, 0, none⟩) nn uc v u) => (show X.cell? ⟨b, 2, none⟩ = some (.slice (some ⟨gu, 0, none⟩) nn uc) from h.box.c2))
        go_upto_region 12 with fail
        obtain ⟨q0, e0⟩ : ∃ x, x = wc.drew := ⟨_, rfl⟩
        have T0 := Lib.hid (show SpS m (N + 1) w q0 b st vA n vc (some ⟨gu, 0, none⟩) nn uc v u from by rw [e0]; exact S6.out.below ((Below.refl _ _).drew))
        have F0 := HPS.out q0 _ T0.out
        have HE0 := Lib.hid e0
        clear e0 S6 x0 x1 x2 xl
        refine AnyT.begin_at (tlGe 10) (fun X => X.cell? ⟨b, 2, none⟩ = some (.slice (some ⟨gu, 0, none⟩) nn uc)) (by kernel_rfl) HE0.out F0 ?_
        clear F0 HE0
        intro F0
        refine AnyT.takeD (i := 0) (d := some 97) (v := .pointer (some ⟨b, 2, none⟩)) rfl rfl (by kernel_rfl) (by kernel_rfl) (by kernel_rfl) (by kernel_rfl) (fun _ _ _ h => h) (Or.inl ⟨by rfl, fun wz _ => by go_simp⟩) F0 ?_
        simp only [Act.put, List.setIfInBounds_toArray, List.set_cons_zero, List.set_cons_succ]
        refine AnyT.takeD (i := 1) (d := some 98) (v := .slice (some ⟨gu, 0, none⟩) nn uc) rfl rfl (by kernel_rfl) (by kernel_rfl) (by kernel_rfl) (by kernel_rfl) (fun _ _ _ h => h) (Or.inl ⟨by rfl, fun wz hz => by have z0 := hz; go_simp⟩) F0 ?_
        simp only [Act.put, List.setIfInBounds_toArray, List.set_cons_zero, List.set_cons_succ]
        refine AnyT.takeD (i := 2) (d := some 99) (v := .pointer (some ⟨m, 0, none⟩)) rfl rfl (by kernel_rfl) (by kernel_rfl) (by kernel_rfl) (by kernel_rfl) (fun _ _ _ h => h) (Or.inl ⟨by rfl, fun wz _ => by go_simp⟩) F0 ?_
        simp only [Act.put, List.setIfInBounds_toArray, List.set_cons_zero, List.set_cons_succ]
        refine AnyT.takeD (i := 3) (d := some 100) (v := .pointer (some ⟨b, 2, none⟩)) rfl rfl (by kernel_rfl) (by kernel_rfl) (by kernel_rfl) (by kernel_rfl) (fun _ _ _ h => h) (Or.inl ⟨by rfl, fun wz _ => by go_simp⟩) F0 ?_
        simp only [Act.put, List.setIfInBounds_toArray, List.set_cons_zero, List.set_cons_succ]
        refine AnyT.takeD (i := 4) (d := some 101) (v := .slice (some ⟨gu, 0, none⟩) nn uc) rfl rfl (by kernel_rfl) (by kernel_rfl) (by kernel_rfl) (by kernel_rfl) (fun _ _ _ h => h) (Or.inl ⟨by rfl, fun wz hz => by have z0 := hz; go_simp⟩) F0 ?_
        simp only [Act.put, List.setIfInBounds_toArray, List.set_cons_zero, List.set_cons_succ]
        refine AnyT.takeD (i := 5) (d := some 102) (v := .int .i64 (nn : Int)) rfl rfl (by kernel_rfl) (by kernel_rfl) (by kernel_rfl) (by kernel_rfl) (fun _ _ _ h => h) (Or.inl ⟨by rfl, fun wz _ => by go_simp⟩) F0 ?_
        simp only [Act.put, List.setIfInBounds_toArray, List.set_cons_zero, List.set_cons_succ]
        refine AnyT.takeD (i := 7) (d := some 104) (v := .pointer (some ⟨m, 0, none⟩)) rfl rfl (by kernel_rfl) (by kernel_rfl) (by kernel_rfl) (by kernel_rfl) (fun _ _ _ h => h) (Or.inl ⟨by rfl, fun wz _ => by go_simp⟩) F0 ?_
        simp only [Act.put, List.setIfInBounds_toArray, List.set_cons_zero, List.set_cons_succ]
        refine AnyT.branch (rs := [6]) (by kernel_rfl) (by simp) ?_
        refine all_cons (?_) all_nil
        refine AnyT.enter (i := 6) (d := some 103) (f := 40) (args := #[.pointer (some ⟨m, 0, none⟩), .int .i64 (nn : Int)]) rfl rfl rfl (by go_simp) (next_any m (N + 1) (nn : Int) q0 T0.out.mkr (by omega) (by omega) (by omega)) ?_
        rintro e q1 ⟨iv, rfl, iv1, iv2, k1, k2⟩
        have T1 := Lib.hid (T0.out.step k2 k1)
        have F1 := HPS.out q1 _ T1.out
        refine ⟨_, rfl, fun _ => F1, ?_⟩
        clear F0 k1 k2 T0
        simp only [Act.put, List.setIfInBounds_toArray, List.set_cons_zero, List.set_cons_succ]
        obtain ⟨i, rfl⟩ := Int.eq_ofNat_of_zero_le iv1
        have hiL : i < nn := by omega
        have hiI : (i : Int) < (nn : Int) := by omega
        refine AnyT.branch (rs := [8]) (by kernel_rfl) (by simp) ?_
        refine all_cons (?_) all_nil
        refine AnyT.enter (i := 8) (d := some 105) (f := 40) (args := #[.pointer (some ⟨m, 0, none⟩), .int .i64 8]) rfl rfl rfl (by go_simp) (next_any m (N + 1 + 1) 8 q1 T1.out.mkr (by omega) (by omega) (by omega)) ?_
        rintro e q2 ⟨z, rfl, z1, z2, k1, k2⟩
        have T2 := Lib.hid (T1.out.step k2 k1)
        have F2 := HPS.out q2 _ T2.out
        refine ⟨_, rfl, fun _ => F2, ?_⟩
        clear F1 k1 k2 T1 z1 z2 iv1 iv2
        simp only [Act.put, List.setIfInBounds_toArray, List.set_cons_zero, List.set_cons_succ]
        refine AnyT.takeD (i := 9) (d := some 106) (v := .pointer (some ⟨gu, i, none⟩)) rfl rfl (by kernel_rfl) (by kernel_rfl) (by kernel_rfl) (by kernel_rfl) (fun _ _ _ h => h) (Or.inl ⟨by rfl, fun wz _ => by go_simp⟩) F2 ?_
        simp only [Act.put, List.setIfInBounds_toArray, List.set_cons_zero, List.set_cons_succ]
        refine AnyT.branch (rs := [10]) (by kernel_rfl) (by simp) ?_
        refine all_cons (?_) all_nil
        have hfz := T2.out.ou.frozen HNN.out i
        have hcz := T2.out.ou.cell HNN.out i (by rw [← HNN.out]; exact hiL)
        have T3 := Lib.hid (T2.out.setU i z)
        refine AnyT.step (i := 10) rfl (fun KK hK => ?_)
        go_simp
        refine hK.out _ _ (fun h => absurd h (by decide)) ?_
        clear hK KK F2 hfz hcz
        refine AnyT.done_ (by kernel_rfl) ?_ _
        clear HPS T2
        generalize q2.setCell ⟨gu, i, none⟩ (.int .i64 z) = q3 at *
        obtain ⟨x0, x1, x2, -, xl⟩ := T3.out.box
        obtain ⟨r0, r1, r2, rf, rl⟩ := T3.out.res
        have f0 := rf 0
        have f1 := rf 1
        have f2 := rf 2
        clear rf
        go_wp2_with fail
        refine bodyPost_ret (results_proof1 rfl _ _ (b + 1) st vA (some ⟨gu, 0, none⟩) n vc nn uc rfl (T3.out.res.put st vA n vc (some ⟨gu, 0, none⟩) nn uc)) rfl ?_
        exact HFIN.out q3 st _ _ _ vc nn uc _ _ T3.out (by omega) (HBD.out.more (by omega) (by omega)) (Nat.le_refl _)
      · go_upto_region 11 with fail
        obtain ⟨x0, x1, x2, -, xl⟩ := S6.out.box
        go_cut [88] from 89 to 96 (fun cv wx => cv = .bool false ∧ Hid (wx = wc))
        case first =>
          by_cases h2 : sel = 4
          · have hn0 : ¬ (0 : Int) < (nn : Int) := by omega
            have h4 : (sel == 4) = true := by rw [h2]; rfl
            clear h2
            go_wp2_with fail
            go_meet
            case rel => exact ⟨by rw [decide_eq_false (by omega)], Lib.hid rfl⟩
          · have h4 : (sel == 4) = false := beq_eq_false_iff_ne.2 h2
            go_wp2_with fail
            go_meet
            case rel => exact ⟨rfl, Lib.hid rfl⟩
        case rest =>
        obtain ⟨rfl, HW⟩ := hcut
        have hwc := HW.out
        subst hwc
        clear HW hv5
        have HPS := Lib.hid (fun (X : World) (M : Nat) (h : SpS m M w X b st vA n vc uA nn uc v u) => (show X.cell? ⟨b, 0, none⟩ = some (.int .i64 st) from h.box.c0))
        have hst := HBD.out.1
        go_upto_region 4 with fail
        obtain ⟨q0, e0⟩ : ∃ x, x = wc.drew := ⟨_, rfl⟩
        have T0 := Lib.hid (show SpS m (N + 1) w q0 b st vA n vc uA nn uc v u from by rw [e0]; exact S6.out.below ((Below.refl _ _).drew))
        have F0 := HPS.out q0 _ T0.out
        have HE0 := Lib.hid e0
        clear e0 S6 x0 x1 x2 xl
        refine AnyT.begin_at (tlGe 7) (fun X => X.cell? ⟨b, 0, none⟩ = some (.int .i64 st)) (by kernel_rfl) HE0.out F0 ?_
        clear F0 HE0
        intro F0
        refine AnyT.takeD (i := 0) (d := some 22) (v := .pointer (some ⟨b, 0, none⟩)) rfl rfl (by kernel_rfl) (by kernel_rfl) (by kernel_rfl) (by kernel_rfl) (fun _ _ _ h => h) (Or.inl ⟨by rfl, fun wz _ => by go_simp⟩) F0 ?_
        simp only [Act.put, List.setIfInBounds_toArray, List.set_cons_zero, List.set_cons_succ]
        refine AnyT.takeD (i := 1) (d := some 23) (v := .pointer (some ⟨b, 0, none⟩)) rfl rfl (by kernel_rfl) (by kernel_rfl) (by kernel_rfl) (by kernel_rfl) (fun _ _ _ h => h) (Or.inl ⟨by rfl, fun wz _ => by go_simp⟩) F0 ?_
        simp only [Act.put, List.setIfInBounds_toArray, List.set_cons_zero, List.set_cons_succ]
        refine AnyT.takeD (i := 2) (d := some 24) (v := .int .i64 st) rfl rfl (by kernel_rfl) (by kernel_rfl) (by kernel_rfl) (by kernel_rfl) (fun _ _ _ h => h) (Or.inl ⟨by rfl, fun wz hz => by have z0 := hz; go_simp⟩) F0 ?_
        simp only [Act.put, List.setIfInBounds_toArray, List.set_cons_zero, List.set_cons_succ]
        refine AnyT.takeD (i := 3) (d := some 25) (v := .pointer (some ⟨m, 0, none⟩)) rfl rfl (by kernel_rfl) (by kernel_rfl) (by kernel_rfl) (by kernel_rfl) (fun _ _ _ h => h) (Or.inl ⟨by rfl, fun wz _ => by go_simp⟩) F0 ?_
        simp only [Act.put, List.setIfInBounds_toArray, List.set_cons_zero, List.set_cons_succ]
        refine AnyT.branch (rs := [4]) (by kernel_rfl) (by simp) ?_
        refine all_cons (?_) all_nil
        obtain ⟨q1, e1⟩ : ∃ q, q = q0.alloc (.cells #[.int .i64 (-1), .int .i64 1] 3) := ⟨_, rfl⟩
        have T1 := Lib.hid (show SpS m (N + 1) w q1 b st vA n vc uA nn uc v u from by rw [e1]; exact T0.out.below ((Below.refl _ _).alloc (Nat.le_refl _) _))
        have F1 := HPS.out q1 _ T1.out
        have HPK := Lib.hid (show ∀ j, j < 2 → ∃ z : Int, q1.cell? ⟨q0.heap.size, j, none⟩ = some (.int .i64 z) ∧ (-1 ≤ z ∧ z ≤ 1) from by rw [e1]; exact cells_pick (W := q0) (cs := [-1, 1]) (P := fun z => -1 ≤ z ∧ z ≤ 1) (by decide))
        have hq01 : q0.heap.size < q1.heap.size := by rw [e1]; simp
        have hmq : m < q0.heap.size := T0.out.mkr.lt
        refine AnyT.yield (i := 4) (d := some 26) (v := .slice (some ⟨q0.heap.size, 0, none⟩) 2 2) (w' := q1) rfl rfl rfl (by rw [e1]; go_simp) (fun _ => F1) ?_
        clear e1 F0
        simp only [Act.put, List.setIfInBounds_toArray, List.set_cons_zero, List.set_cons_succ]
        refine AnyT.branch (rs := [5]) (by kernel_rfl) (by simp) ?_
        refine all_cons (?_) all_nil
        refine AnyT.enter (i := 5) (d := some 27) (f := 36) (args := #[.pointer (some ⟨m, 0, none⟩), .slice (some ⟨q0.heap.size, 0, none⟩) 2 2]) rfl rfl rfl (by go_simp) (pick_any m (N + 1) (fun z => -1 ≤ z ∧ z ≤ 1) q0.heap.size 2 2 q1 T1.out.mkr (by omega) (by omega) (by omega) (by omega) hq01 HPK.out) ?_
        rintro e q2 ⟨z, rfl, hz, k1, k2⟩
        have T2 := Lib.hid (T1.out.step k2 k1)
        have F2 := HPS.out q2 _ T2.out
        refine ⟨_, rfl, fun _ => F2, ?_⟩
        clear F1 k1 k2 T1 T0 HPK
        simp only [Act.put, List.setIfInBounds_toArray, List.set_cons_zero, List.set_cons_succ]
        have hwr : IntKind.i64.wrap (st + z) = st + z := IntWalk.i64_in _ (by omega)
        refine AnyT.takeD (i := 6) (d := some 28) (v := .int .i64 (st + z)) rfl rfl (by kernel_rfl) (by kernel_rfl) (by kernel_rfl) (by kernel_rfl) (fun _ _ _ h => h) (Or.inl ⟨by rfl, fun wz _ => by go_simp⟩) F2 ?_
        simp only [Act.put, List.setIfInBounds_toArray, List.set_cons_zero, List.set_cons_succ]
        refine AnyT.takePD (i := 7) (d := some 29) (v := .pointer (some ⟨b, 0, none⟩)) rfl rfl (by kernel_rfl) (by kernel_rfl) (by kernel_rfl) (by kernel_rfl) (fun _ _ _ h => h) (Or.inl ⟨by rfl, fun wz _ => by go_simp⟩) ?_
        simp only [Act.put, List.setIfInBounds_toArray, List.set_cons_zero, List.set_cons_succ]
        refine AnyT.takePD (i := 8) (d := some 30) (v := .pointer (some ⟨b, 0, none⟩)) rfl rfl (by kernel_rfl) (by kernel_rfl) (by kernel_rfl) (by kernel_rfl) (fun _ _ _ h => h) (Or.inl ⟨by rfl, fun wz _ => by go_simp⟩) ?_
        simp only [Act.put, List.setIfInBounds_toArray, List.set_cons_zero, List.set_cons_succ]
        refine AnyT.branch (rs := [9]) (by kernel_rfl) (by simp) ?_
        refine all_cons (?_) all_nil
        have hfz := T2.out.box.f 0
        have T3 := Lib.hid (T2.out.setSt (st + z))
        have HB4 := Lib.hid (show SpB (S + 1) (C + 4) (st + z) v from ⟨⟨by omega, by omega⟩, fun x => by have := HBD.out.2 x; omega⟩)
        refine AnyT.step (i := 9) rfl (fun KK hK => ?_)
        go_simp
        refine hK.out _ _ (fun h => absurd h (by decide)) ?_
        clear hK KK F2 hfz hwr
        refine AnyT.done_ (by kernel_rfl) ?_ _
        clear HPS T2
        generalize q2.setCell ⟨b, 0, none⟩ (.int .i64 (st + z)) = q3 at *
        obtain ⟨x0, x1, x2, -, xl⟩ := T3.out.box
        obtain ⟨r0, r1, r2, rf, rl⟩ := T3.out.res
        have f0 := rf 0
        have f1 := rf 1
        have f2 := rf 2
        clear rf
        go_wp2_with fail
        refine bodyPost_ret (results_proof1 rfl _ _ (b + 1) (st + z) vA uA n vc nn uc rfl (T3.out.res.put (st + z) vA n vc uA nn uc)) rfl ?_
        exact HFIN.out q3 (st + z) _ _ _ vc nn uc _ _ T3.out (by omega) HB4.out (Nat.le_refl _)
end Go.Proofs.Ytlagadbkencpbaa

namespace Go.Proofs.Ytlagadbkencpbaa
open Go.RowKit Go.Lib

theorem vw_zero {l : List It} (h : ∀ p ∈ l, okI p ∧ p.2.2.1 = 0) : vwI 0 l = 0 := by
  induction l with
  | nil => rfl
  | cons p l ih =>
    obtain ⟨h1, h2⟩ := h p (List.mem_cons_self ..)
    show (if okI p then (if p.2.2.1 < 0 then 12 else vwI p.2.2.1 l) else 2) = 0
    rw [if_pos h1, if_neg (by omega), h2]
    exact ih (fun q hq => h q (List.mem_cons_of_mem _ hq))
/-- An item of round 0; the items of which the first k are of round 0. -/
def zI (p : It) : It := (p.1, p.2.1, 0, p.2.2.2)
def zrK (l : List It) (k : Nat) : List It := (l.take k).map zI ++ l.drop k
theorem zrK_zero (l : List It) : zrK l 0 = l := by unfold zrK; simp
theorem zrK_all (l : List It) : zrK l l.length = l.map zI := by unfold zrK; simp
theorem zrK_len (l : List It) (k : Nat) : (zrK l k).length = l.length := by
  unfold zrK; rw [List.length_append, List.length_map, List.length_take, List.length_drop]; omega
theorem zrK_at (l : List It) {k : Nat} (hk : k < l.length) : (zrK l k).getD k it0 = l.getD k it0 := by
  unfold zrK
  have e : ((l.take k).map zI).length = k := by rw [List.length_map, List.length_take]; omega
  rw [List.getD_eq_getElem?_getD, List.getElem?_append_right (by omega), e, Nat.sub_self, List.getElem?_drop, Nat.add_zero, ← List.getD_eq_getElem?_getD]
theorem zrK_succ (l : List It) {k : Nat} (hk : k < l.length) : (zrK l k).set k (zI (l.getD k it0)) = zrK l (k + 1) := by
  unfold zrK
  have e : ((l.take k).map zI).length = k := by rw [List.length_map, List.length_take]; omega
  rw [List.set_append_right _ _ (by omega), e, Nat.sub_self, drop_at hk, List.set_cons_zero, List.take_succ_eq_append_getElem hk, List.map_append, List.append_assoc, List.getD_eq_getElem?_getD, List.getElem?_eq_getElem hk]
  rfl
theorem flatI_setR (l : List It) : ∀ (k : Nat), k < l.length → (flatI l).set (k * 4 + 2) 0 = flatI (l.set k (zI (l.getD k it0))) := by
  induction l with
  | nil => intro k hk; cases hk
  | cons p l ih =>
    intro k hk
    cases k with
    | zero => rfl
    | succ k =>
      have := ih k (by simp at hk; omega)
      rw [show (k + 1) * 4 + 2 = (k * 4 + 2) + 1 + 1 + 1 + 1 by omega]
      show p.1 :: p.2.1 :: p.2.2.1 :: p.2.2.2 :: (flatI l).set (k * 4 + 2) 0 = _
      rw [this]; rfl
theorem z_valid {l : List It} {wt : Int} (h : validR l wt = 0) : validR (l.map zI) wt = 0 := by
  obtain ⟨h1, h2, _⟩ := valid_ok h
  have hw := (formOk_of h).wb
  unfold validR
  rw [List.length_map, if_neg (by omega), if_pos (btw_iff.2 hw)]
  refine vw_zero (fun p hp => ?_)
  obtain ⟨q, hq, rfl⟩ := List.mem_map.1 hp
  obtain ⟨⟨a1, a2⟩, ⟨b1, b2⟩, ⟨c1, c2⟩, ⟨d1, d2⟩⟩ := h2 q hq
  exact ⟨⟨⟨a1, a2⟩, ⟨b1, b2⟩, ⟨by show (0 : Int) ≤ 0; omega, by show (0 : Int) ≤ 12; omega⟩, ⟨d1, d2⟩⟩, rfl⟩
theorem z_rnd {l : List It} (y : Nat) (hy : y < (l.map zI).length) : rnd (l.map zI) y = 0 := by
  rw [List.length_map] at hy
  unfold rnd
  simp [List.getD_eq_getElem?_getD, hy, zI]
/-- What holds while the rounds are cleared. -/
structure ZSt (w wr : World) (b : Nat) (A : Option Addr) (c : Nat) (l : List It) (wt : Int) : Prop where
  box : JBox wr b A l.length c wt
  own : IOwn 85 wr (w.heap.size + 1) (.slice A l.length c) l
  lo : ∀ g, (Value.slice A l.length c).ownBlock = some g → g < b
  bel : Below w.heap.size w wr
  lt : w.heap.size < b
theorem ZSt.below {w wr w' : World} {b c : Nat} {A : Option Addr} {l : List It} {wt : Int} (h : ZSt w wr b A c l wt) (k : Below wr.heap.size wr w') : ZSt w w' b A c l wt :=
  ⟨h.box.below k h.box.lt, h.own.below k, h.lo, h.bel.trans (k.mono h.bel.size), h.lt⟩
def lnB (x : Nat) : Bool := decide (x < 2 ^ ln x) && (x == 0 || decide (2 ^ (ln x - 1) ≤ x))
set_option maxRecDepth 100000 in
theorem lnB_all : allT lnB 12 0 = true := by decide +kernel
theorem ln_bd {x : Nat} (h : x < 4096) : x < 2 ^ ln x ∧ (x ≠ 0 → 2 ^ (ln x - 1) ≤ x) := by
  have e := allT_all lnB_all h
  unfold lnB at e
  simp only [Bool.and_eq_true, decide_eq_true_eq, Bool.or_eq_true, beq_iff_eq] at e
  exact ⟨e.1, fun g => e.2.resolve_left g⟩
theorem pc_pow {b : Nat} (hb : b < 12) : pc (2 ^ b) = 1 := by
  have := pc_high (b := b) (t := 0) hb (Nat.two_pow_pos b)
  rw [Nat.add_zero, pc_zero] at this
  exact this
/-- A code of round 0 that is not 0 has a weight. -/
theorem isC_wt {V K : Nat} (h : isC 0 V K = true) (h0 : K ≠ 0) : 1 ≤ V := by
  rcases Nat.eq_zero_or_pos V with e | e
  · exfalso
    subst e
    have hk := (isC_iff.1 h).1
    obtain ⟨l1, l2⟩ := ln_bd hk
    have l2 := l2 h0
    have hl := ln_le K
    have hp : ln K ≠ 0 := fun e => by rw [e] at l1; omega
    have e2 : 2 ^ ln K = 2 ^ (ln K - 1) + 2 ^ (ln K - 1) := by
      rw [show ln K = (ln K - 1) + 1 by omega, Nat.pow_succ, Nat.add_sub_cancel]; omega
    have := isC_none (r := 0) (b := ln K - 1) (t := K - 2 ^ (ln K - 1)) (Nat.zero_le _) (by omega) (by omega)
    rw [show 2 ^ (ln K - 1) + (K - 2 ^ (ln K - 1)) = K by omega, h] at this
    cases this
  · exact e
theorem isC_pow {V b : Nat} (hV : 1 ≤ V) (hb : b < 12) : isC 0 V (2 ^ b) = true :=
  isC_iff.2 ⟨by have := pow_le12 hb; omega, by rw [Nat.pow_zero]; omega, by rw [Nat.pow_zero, Nat.div_one, pc_pow hb]; exact hV⟩
/-- The least codes fit their job. -/
theorem sol_pl {l : List It} {wt st : Int} {bs v : List Int} (hv : validR l wt = 0) (h : Sol l wt bs v) (hs : StepsOf v st) : ∃ S : Nat, st = (S : Int) ∧ Pl l wt S v := by
  have hf := formOk_of hv
  have hp := h.plan hf
  have hb := fun y => (h.bound hf y).1
  have key : ∀ S : Nat, S ≤ 12 → (∀ y, y < l.length → v.getD y 0 < ((2 ^ S : Nat) : Int)) → Pl l wt S v := fun S hS hlt => by
    refine ⟨hv, fitB_iff.2 ⟨by omega, h.vlen, fun y hy => ?_⟩⟩
    unfold okC
    have e : (2 : Int) ^ ((S : Int)).toNat = ((2 ^ S : Nat) : Int) := by simp
    rw [e, decide_eq_true (hlt y hy)]
    obtain ⟨K, hK, hc⟩ := hp.code y hy
    obtain ⟨R, hR⟩ := Int.eq_ofNat_of_zero_le (hf.rb y hy).1
    obtain ⟨V, hV⟩ := Int.eq_ofNat_of_zero_le hf.wb.1
    rw [hR, hV] at hc
    rw [hK, hR, hV, isZ_nat (by have := (hf.rb y hy).2; omega) (by have := hf.wb.2; omega)]
    exact hc
  rcases hs with ⟨e, rfl⟩ | ⟨M, hM, rfl⟩
  · refine ⟨0, rfl, key 0 (Nat.zero_le _) (fun y hy => ?_)⟩
    rw [← h.vlen, e] at hy; cases hy
  · obtain ⟨x, hx, hxM⟩ := hM.hit
    have hMb := hb x
    rw [hxM] at hMb
    obtain ⟨m, rfl⟩ := Int.eq_ofNat_of_zero_le hMb.1
    have hl := ln_bd (x := m) (by omega)
    refine ⟨ln m, by rw [Int.toNat_natCast], key (ln m) (ln_le m) (fun y hy => ?_)⟩
    have h1 := hM.le y (by rw [h.vlen]; exact hy)
    have h2 := hl.1
    omega
/-- Where all rounds are 0, each bit below the steps is set in some code. -/
theorem sol_bits {l : List It} {wt : Int} {bs v : List Int} (hv : validR l wt = 0) (hr : ∀ y, y < l.length → rnd l y = 0) (h : Sol l wt bs v) {m : Nat} (hM : TopV v v.length (m : Int)) {b : Nat} (hb : b < ln m) : ∃ x, x < l.length ∧ bitN (cdN v x) b = true := by
  have hf := formOk_of hv
  have hp := h.plan hf
  have hbd := h.bound hf
  obtain ⟨x0, hx0, hxM⟩ := hM.hit
  rw [h.vlen] at hx0
  have hm : m < 4096 := by have := (hbd x0).1.2; omega
  have hl := ln_bd hm
  have hm0 : m ≠ 0 := fun e => by subst e; rw [ln_zero] at hb; omega
  have hl2 := hl.2 hm0
  have hl12 := ln_le m
  have hb2 : 2 ^ b ≤ m := Nat.le_trans (Nat.pow_le_pow_right (by decide) (show b ≤ ln m - 1 by omega)) hl2
  obtain ⟨V, hV⟩ := Int.eq_ofNat_of_zero_le hf.wb.1
  obtain ⟨K0, hK0, hc0⟩ := hp.code x0 hx0
  rw [hr x0 hx0, hV] at hc0
  have hKm : K0 = m := by rw [hxM] at hK0; omega
  subst hKm
  have hV1 : 1 ≤ V := isC_wt hc0 hm0
  have hV12 : V ≤ 12 := by have := hf.wb.2; omega
  have hpow := isC_pow (V := V) (b := b) hV1 (by omega)
  have hP1 := Nat.two_pow_pos b
  obtain ⟨P, hP⟩ : ∃ P, P = 2 ^ b := ⟨_, rfl⟩
  rw [← hP] at hb2 hpow hP1
  have HP := Lib.hid hP
  clear hP hl2 hl
  have key : ∀ (n : Nat) y, y < l.length → blk l y < (n : Int) → (P : Int) ≤ v.getD y 0 → ∃ x, x < l.length ∧ v.getD x 0 = (P : Int) := by
    intro n
    induction n with
    | zero => intro y hy hn; have := (hf.blk y hy).1; omega
    | succ n ih =>
      intro y hy hn hge
      by_cases e : v.getD y 0 = (P : Int)
      · exact ⟨y, hy, e⟩
      · have hbase := h.base y hy
        have hcode := h.code y hy
        rw [hr y hy, hV] at hcode
        have hgt : (P : Int) < bs.getD y 0 := by
          rcases Int.lt_or_le (P : Int) (bs.getD y 0) with g | g
          · exact g
          · obtain ⟨j, hj, hjk⟩ := next_code_le (K := P) (wt := (V : Int)) hbase.pos (show (0 : Int) ≤ 0 ∧ (0 : Int) ≤ 12 by omega) (by omega) g hpow
            rw [hcode] at hj
            injection hj with hj
            omega
        rcases hbase.hit with e0 | ⟨x, hx, ex⟩
        · omega
        · have hrel : rel l x y ≠ 0 := fun g => by
            have := via_zero (v := v) g
            have ex' : via l v x y = bs.getD y 0 := ex
            omega
          have ex' : via l v x y = bs.getD y 0 := ex
          rw [via_pos hrel] at ex'
          have h3 := rel_cases l x y
          have h4 := (rel_pos hrel).2
          exact ih x hx (by omega) (by omega)
  obtain ⟨x, hx, ex⟩ := key 32 x0 hx0 (by have := (hf.blk x0 hx0).2; omega) (by rw [hxM]; omega)
  refine ⟨x, hx, ?_⟩
  have e : cdN v x = 2 ^ b := by unfold cdN; rw [ex, ← HP.out]; exact Int.toNat_natCast _
  rw [e]
  unfold bitN
  rw [Nat.div_self (Nat.two_pow_pos b)]; rfl
/-- Pushes of the least codes of a job of one round. -/
theorem push_least {l : List It} {wt st : Int} {bs v : List Int} (hv : validR l wt = 0) (hr : ∀ y, y < l.length → rnd l y = 0) (h : Sol l wt bs v) (hs : StepsOf v st) :
    val14 l wt st v = 0 ∧ ∃ S : Nat, st = (S : Int) ∧ S ≤ 12 ∧ ((l.length = 0 ∧ pushZ l wt st v = (0, 0)) ∨ (0 < l.length ∧ pushZ l wt st v = ((S : Int) + 1, 0))) := by
  obtain ⟨S, rfl, hpl⟩ := sol_pl hv h hs
  have h0 := hpl.val14
  have hf := hpl.fitN
  have hz : pushZ l wt (S : Int) v = ((mP S l.length (cdN v) (rdN l) (S + 1) : Int), 0) := by unfold pushZ; rw [if_pos h0]; rfl
  have hrd : ∀ y, y < l.length → rdN l y = 0 := fun y hy => by unfold rdN; rw [hr y hy]; rfl
  refine ⟨h0, S, rfl, hpl.s12, ?_⟩
  rcases Nat.eq_zero_or_pos l.length with e | e
  · refine Or.inl ⟨e, ?_⟩
    rw [hz, (mP_none e (S + 1)).1]; rfl
  · refine Or.inr ⟨e, ?_⟩
    have hq : mP S l.length (cdN v) (rdN l) (S + 1) = S + 1 := mP_eq (S + 1) (fun t ht => by
      cases t with
      | zero => exact q_some hf (Nat.zero_le _) (x := 0) e (Or.inl (hrd 0 e))
      | succ t =>
        have hts : t < S := by omega
        rcases hs with ⟨e1, e2⟩ | ⟨M, hM, e2⟩
        · omega
        · have hMb : 0 ≤ M := by
            obtain ⟨x, hx, hxM⟩ := hM.hit
            have := (h.bound (formOk_of hv) x).1.1
            omega
          obtain ⟨m, rfl⟩ := Int.eq_ofNat_of_zero_le hMb
          rw [Int.toNat_natCast] at e2
          have e3 : S = ln m := by omega
          obtain ⟨x, hx, hxb⟩ := sol_bits hv hr h hM (b := t) (by omega)
          refine q_some hf (by omega) hx (Or.inr ⟨by rw [hrd x hx]; omega, ?_⟩)
          rw [Nat.add_sub_cancel]; exact hxb)
    rw [hz, hq]
    show (((S + 1 : Nat) : Int), (0 : Int)) = _
    rw [Int.natCast_add]; rfl
end Go.Proofs.Ytlagadbkencpbaa

namespace Go.Proofs.Ytlagadbkencpbaa
open Go.RowKit Go.Lib

def sortE (l : List It) (wt : Int) (ts : List (List Int)) : Bool × Int := if validR l wt = 0 then (sortedB l ts, 0) else (false, validR l wt)
abbrev RB (t : Bool × Int) : Value := .tuple #[.bool t.1, .int .i64 t.2]
theorem ret_rb {a : Bool} {b : Int} {t : Bool × Int} (h : t = (a, b)) : Ending.returned (.tuple #[.bool a, .int .i64 b]) = .returned (RB t) := by rw [h]
theorem goT_no {l : List It} {t : Int} {s : List Bool} {p : List Int} {r : List (List Int)} (h : goL l t none s p = none) : goT l t s (p :: r) = none := by
  show (match goL l t none s p with | none => none | some s => goT l (t + 1) s r) = none
  rw [h]
theorem goT_ok {l : List It} {t : Int} {s s' : List Bool} {p : List Int} {r : List (List Int)} (h : goL l t none s p = some s') : goT l t s (p :: r) = goT l (t + 1) s' r := by
  show (match goL l t none s p with | none => none | some s => goT l (t + 1) s r) = _
  rw [h]
theorem sortedB_no {l : List It} {ts : List (List Int)} (h : goT l 0 (List.replicate l.length false) ts = none) : sortedB l ts = false := by
  unfold sortedB; rw [h]
theorem sortedB_some {l : List It} {ts : List (List Int)} {s : List Bool} (h : goT l 0 (List.replicate l.length false) ts = some s) : sortedB l ts = !hasF s := by
  unfold sortedB; rw [h]
theorem prvS_succ (p : List Int) (n : Nat) : prvS p (n + 1) = some (p.getD n 0) := rfl
theorem step_index {l : List It} {t : Int} {prev : Option Int} {s : List Bool} {x : Int} (h : btw x 0 ((l.length : Int) - 1) = false) : stepOk l t prev s x = false := by
  unfold stepOk; rw [h]; rfl
theorem step_seen {l : List It} {t : Int} {prev : Option Int} {s : List Bool} {x : Int} (h : s.getD x.toNat false = true) : stepOk l t prev s x = false := by
  unfold stepOk; rw [h]; simp
theorem step_train {l : List It} {t : Int} {prev : Option Int} {s : List Bool} {x : Int} (h : trn l x.toNat ≠ t) : stepOk l t prev s x = false := by
  unfold stepOk; rw [decide_eq_false h]; simp
theorem step_first {l : List It} {t : Int} {s : List Bool} {x : Int} (h1 : btw x 0 ((l.length : Int) - 1) = true) (h2 : s.getD x.toNat false = false) (h3 : trn l x.toNat = t) : stepOk l t none s x = true := by
  unfold stepOk; rw [h1, h2, decide_eq_true h3]; rfl
theorem step_next {l : List It} {t : Int} {s : List Bool} {x y : Int} (h1 : btw x 0 ((l.length : Int) - 1) = true) (h2 : s.getD x.toNat false = false) (h3 : trn l x.toNat = t) : stepOk l t (some y) s x = !decide (blk l x.toNat < blk l y.toNat) := by
  unfold stepOk; rw [h1, h2, decide_eq_true h3]; rfl
/-- What is known while a list is read. -/
structure Inn (l : List It) (t : Int) (s0 s : List Bool) (p : List Int) (n : Nat) : Prop where
  eq : goL l t none s0 p = goL l t (prvS p n) s (p.drop n)
  len : s.length = l.length
  prev : ∀ y, prvS p n = some y → btw y 0 ((l.length : Int) - 1) = true
theorem Inn.ok {l : List It} {t : Int} {s0 s : List Bool} {p : List Int} {n : Nat} (h : Inn l t s0 s p n) (hn : n < p.length) (hx : btw (p.getD n 0) 0 ((l.length : Int) - 1) = true) (hs : stepOk l t (prvS p n) s (p.getD n 0) = true) : Inn l t s0 (s.set (p.getD n 0).toNat true) p (n + 1) := by
  refine ⟨?_, by rw [List.length_set]; exact h.len, fun y hy => ?_⟩
  · rw [h.eq, drop_any 0 hn, goL_ok hs]; rfl
  · rw [prvS_succ] at hy; injection hy with hy; rw [← hy]; exact hx
theorem Inn.no {l : List It} {t : Int} {s0 s : List Bool} {p : List Int} {n : Nat} (h : Inn l t s0 s p n) (hn : n < p.length) (hs : stepOk l t (prvS p n) s (p.getD n 0) = false) : goL l t none s0 p = none := by
  rw [h.eq, drop_any 0 hn, goL_no hs]
set_option maxRecDepth 100000 in
set_option maxHeartbeats 3200000 in
theorem sorted_any (l : List It) (A : Option Addr) (c : Nat) (wt : Int) (ts : List (List Int)) (P : Option Addr) (pc : Nat) (w : World) (h : IRow w A l) (hp : PP w P ts) (hm : ts.length ≤ maxLen) :
    Calls Try.prog 26 #[jv A l.length c wt, .slice P ts.length pc] w fun e w' => e = .returned (RB (sortE l wt ts)) ∧ Below w.heap.size w w' := by
  have H := Lib.hid h
  have HP := Lib.hid hp
  have hts : ts.length ≤ 9223372036854775807 := hm
  obtain ⟨L, hL⟩ : ∃ n, n = l.length := ⟨_, rfl⟩
  have HL := Lib.hid hL
  obtain ⟨T, hT⟩ : ∃ n, n = ts.length := ⟨_, rfl⟩
  have HT := Lib.hid hT
  have HVL := Lib.hid (fun (W : World) (k : IRow W A l) => valid_any l A c wt W k)
  rw [← hL] at HVL ⊢
  rw [← hT] at hts ⊢
  have B0 := Lib.hid ((Below.refl w.heap.size w).alloc (Nat.le_refl _) (.cells #[.slice A L c, .int .i64 wt] 39))
  have J0 := Lib.hid (JBox.new (w := w) (A := A) (n := L) (c := c) (wt := wt) w.heap.size rfl)
  obtain ⟨b, hb⟩ : ∃ b, b = w.heap.size := ⟨_, rfl⟩
  clear h hL hp hm hT
  go_enter Try.func26, Try.ntmps26
  go_upto_region 1 with fail
  rw [← hb] at J0 ⊢
  generalize w.alloc (.cells #[.slice A L c, .int .i64 wt] 39) = w1 at *
  obtain ⟨j0, j1, jl⟩ := J0.out
  clear hb
  go_wp2_with fail
  refine (HVL.out w1 (H.out.below B0.out)).mono ?_
  rintro e w2 ⟨rfl, hB2⟩
  have J2 := Lib.hid (J0.out.below hB2 jl)
  have B2 := Lib.hid (B0.out.trans (hB2.mono B0.out.size))
  clear j0 j1 jl J0 B0 hB2 HVL
  obtain ⟨j0, j1, jl⟩ := J2.out
  by_cases he : validR l wt = 0
  · obtain ⟨p1, p2, p3⟩ := valid_ok he
    have HE := Lib.hid (show sortE l wt ts = (sortedB l ts, 0) from if_pos he)
    rw [he]
    rw [← HL.out] at p1
    clear he p2 p3
    have hmk := make_bools w2 L (by omega)
    have S0 := Lib.hid (BSet.new w2 (List.replicate L false) w2.heap.size rfl)
    have B3 := Lib.hid ((Below.refl w2.heap.size w2).alloc (Nat.le_refl _) (.cells ((List.replicate L false).map Value.bool).toArray 4))
    have Z0 := Lib.hid (show (List.replicate L false).length = l.length ∧ goT l 0 (List.replicate l.length false) ts = goT l 0 (List.replicate L false) ts from ⟨by rw [HL.out]; simp, by rw [HL.out]⟩)
    obtain ⟨g, hg⟩ : ∃ g, g = w2.heap.size := ⟨_, rfl⟩
    have HG := Lib.hid hg
    rw [← hg] at S0 hmk B3
    generalize w2.alloc (.cells ((List.replicate L false).map Value.bool).toArray 4) = w3 at *
    generalize List.replicate L false = s0 at *
    clear hg
    go_wp2_with fail
    go_loopw [23] (fun iv wr => ∃ (k : Nat) (s : List Bool), k ≤ T ∧ iv = .int .i64 (k : Int) ∧ Hid (BSet wr g s) ∧ Hid (s.length = l.length ∧ goT l 0 (List.replicate l.length false) ts = goT l (k : Int) s (ts.drop k)) ∧ Hid (Below g w2 wr)) (fun iv _ => T - (intOf iv).toNat)
    case atStart => exact ⟨0, s0, by omega, rfl, S0, Z0, B3⟩
    case round =>
      clear S0 Z0 B3 hmk j0 j1 jl
      obtain ⟨k, s, hk, rfl, S, Z, B⟩ := hrel
      have BW := Lib.hid (B2.out.trans ((show Below w2.heap.size w2 wr by rw [← HG.out]; exact B.out).mono B2.out.size))
      by_cases hlt : k < T
      · have hkt : k < ts.length := by rw [← HT.out]; exact hlt
        obtain ⟨pad, rfl, pbl, pa, qc, pcw, pr, pm⟩ := HP.out k _ (getD_ex [] hkt)
        have pcl := (BW.out.cell (p := pad.add k) (by rw [add_block]; exact pbl)).trans pcw
        clear pcw
        have Zd := Z.out.2
        rw [drop_any [] hkt] at Zd
        obtain ⟨p, hpp⟩ : ∃ p, p = ts.getD k [] := ⟨_, rfl⟩
        have HPP := Lib.hid hpp
        rw [← hpp] at pcl pr pm Zd
        have pm' : p.length ≤ 9223372036854775807 := pm
        have ZD := Lib.hid Zd
        have PRW := Lib.hid (show Row .i64 w w.heap.size pa p from pr)
        obtain ⟨N, hN⟩ : ∃ n, n = p.length := ⟨_, rfl⟩
        have HN := Lib.hid hN
        rw [← hN] at pcl pm'
        have I0 := Lib.hid (show Inn l (k : Int) s s p 0 from ⟨rfl, Z.out.1, fun y hy => by cases hy⟩)
        have HZL := Lib.hid Z.out.1
        clear hpp Zd pr pm hN Z hkt BW
        go_wp2_with fail
        clear pcl
        go_loopw [30] (fun iv wi => ∃ (n : Nat) (si : List Bool), n ≤ N ∧ iv = .int .i64 (n : Int) ∧ Hid (BSet wi g si) ∧ Hid (Inn l (k : Int) s si p n) ∧ Hid (Below g w2 wi)) (fun iv _ => N - (intOf iv).toNat)
        case atStart => exact ⟨0, s, by omega, rfl, S, I0, B⟩
        case round =>
          clear S B I0
          obtain ⟨n, si, hn, rfl, Si, I, Bi⟩ := hrel
          have BW := Lib.hid (B2.out.trans ((show Below w2.heap.size w2 wr by rw [← HG.out]; exact Bi.out).mono B2.out.size))
          by_cases hln : n < N
          · have hnp : n < p.length := by rw [← HN.out]; exact hln
            obtain ⟨pad2, rfl, _, cx⟩ := (PRW.out.below BW.out) n hnp
            obtain ⟨x, hx⟩ : ∃ x, x = p.getD n 0 := ⟨_, rfl⟩
            have HX := Lib.hid hx
            rw [← hx] at cx
            have J3 := J2.out.below Bi.out (by rw [HG.out]; exact J2.out.lt)
            obtain ⟨j0, j1, jl⟩ := J3
            have HIX := Lib.hid (fun (x : Int) (W : World) => index_any A L c x (by unfold maxLen; omega) W)
            have NO := Lib.hid (fun (hs : stepOk l (k : Int) (prvS p n) si x = false) => show sortE l wt ts = (false, 0) from by
              rw [HE.out]
              rw [HX.out] at hs
              rw [sortedB_no (by rw [ZD.out, goT_no (I.out.no (by rw [← HN.out]; exact hln) hs)])])
            have hgw : g < wr.heap.size := Si.out.lt
            clear hx hnp
            cases hbx : btw x 0 ((L : Int) - 1)
            · have HR := Lib.hid (NO.out (step_index (by rw [← HL.out]; exact hbx)))
              go_wp2_with fail
              refine (HIX.out x _).mono ?_
              rintro e w4 ⟨rfl, hw4⟩
              rw [hw4, hbx]
              clear hw4
              go_wp2_with fail
              go_ret2
              exact ⟨ret_rb HR.out, BW.out⟩
            · obtain ⟨x1, x2⟩ := btw_iff.1 hbx
              obtain ⟨X, rfl⟩ := Int.eq_ofNat_of_zero_le x1
              have hXL : X < L := by omega
              have csn := Si.out.cell X (by rw [I.out.len, ← HL.out]; exact hXL)
              cases hsn : si.getD X false
              · rw [hsn] at csn
                obtain ⟨ad, rfl, c0, c1, _, _⟩ := (H.out.below BW.out).two (x := X) (y := X) (by rw [← HL.out]; exact hXL) (by rw [← HL.out]; exact hXL)
                have hXL' : (X : Int) < (L : Int) := by omega
                have HBX := Lib.hid (show btw (X : Int) 0 ((l.length : Int) - 1) = true by rw [← HL.out]; exact hbx)
                have HSN := Lib.hid hsn
                by_cases ht : trn l X = (k : Int)
                · have htn : (trn l X != (k : Int)) = false := by simpa using ht
                  have fz := Si.out.frozen X
                  have S2 := Lib.hid (Si.out.set X true)
                  have B4 := Lib.hid (Bi.out.setCell (p := ⟨g, X, none⟩) (Nat.le_refl g) (.bool true))
                  have OK := Lib.hid (fun (hs : stepOk l (k : Int) (prvS p n) si (X : Int) = true) => show Inn l (k : Int) s (si.set X true) p (n + 1) from by
                    have := I.out.ok (by rw [← HN.out]; exact hln) (by rw [← HX.out]; exact HBX.out) (by rw [← HX.out]; exact hs)
                    rwa [← HX.out] at this)
                  have HTK := Lib.hid ht
                  clear hsn ht
                  cases n with
                  | zero =>
                    have e0 : pad2.add 0 = pad2 := by unfold Addr.add; rw [if_pos rfl]
                    rw [e0] at cx
                    have I2 := Lib.hid (OK.out (step_first HBX.out HSN.out HTK.out))
                    clear e0
                    go_wp2_with fail
                    refine (HIX.out X _).mono ?_
                    rintro e w4 ⟨rfl, hw4⟩
                    rw [hw4, hbx]
                    clear hw4
                    go_wp2_with fail
                    go_quiet (fail)
                    go_wp2_with fail
                    go_roundw
                    case rel => exact ⟨0 + 1, si.set X true, by omega, by go_num, Lib.hid (S2.out.drewN _), I2, Lib.hid (bdn B4.out)⟩
                    case measure => simp [intOf]; omega
                  | succ m =>
                    have hng : (0 : Int) < (m : Int) + 1 := by omega
                    rw [add_sc] at cx
                    obtain ⟨_, e', _, cy⟩ := (PRW.out.below BW.out) m (by rw [← HN.out]; omega)
                    obtain rfl : pad2 = _ := by injection e'
                    have hyb := I.out.prev _ (prvS_succ p m)
                    obtain ⟨y, hy⟩ : ∃ y, y = p.getD m 0 := ⟨_, rfl⟩
                    have HPV := Lib.hid (show prvS p (m + 1) = some y by rw [hy]; rfl)
                    rw [← hy] at cy hyb
                    rw [← HL.out] at hyb
                    obtain ⟨y1, y2⟩ := btw_iff.1 hyb
                    obtain ⟨Y, rfl⟩ := Int.eq_ofNat_of_zero_le y1
                    have hYL : Y < L := by omega
                    have hYL' : (Y : Int) < (L : Int) := by omega
                    obtain ⟨_, e2, d0, d1, _, _⟩ := (H.out.below BW.out).two (x := Y) (y := Y) (by rw [← HL.out]; exact hYL) (by rw [← HL.out]; exact hYL)
                    obtain rfl : ad = _ := by injection e2
                    have hm1 : (m : Int) < (N : Int) := by omega
                    have hm0 : (0 : Int) ≤ (m : Int) := by omega
                    have NX := Lib.hid (show stepOk l (k : Int) (prvS p (m + 1)) si (X : Int) = !decide (blk l X < blk l Y) by rw [HPV.out]; exact step_next HBX.out HSN.out HTK.out)
                    clear hy hyb y1 e' e2
                    generalize blk l X = bx at *
                    generalize blk l Y = bY at *
                    by_cases hlt2 : bx < bY
                    · have HR := Lib.hid (NO.out (by rw [NX.out, decide_eq_true hlt2]; rfl))
                      go_wp2_with fail
                      refine (HIX.out X _).mono ?_
                      rintro e w4 ⟨rfl, hw4⟩
                      rw [hw4, hbx]
                      clear hw4
                      go_wp2_with fail
                      go_quiet (fail)
                      go_wp2_with fail
                      go_ret2
                      exact ⟨ret_rb HR.out, bdn BW.out⟩
                    · have I2 := Lib.hid (OK.out (by rw [NX.out, decide_eq_false hlt2]; rfl))
                      go_wp2_with fail
                      refine (HIX.out X _).mono ?_
                      rintro e w4 ⟨rfl, hw4⟩
                      rw [hw4, hbx]
                      clear hw4
                      go_wp2_with fail
                      go_quiet (fail)
                      go_wp2_with fail
                      go_roundw
                      case rel => exact ⟨m + 1 + 1, si.set X true, by omega, by go_num, Lib.hid (S2.out.drewN _), I2, Lib.hid (bdn B4.out)⟩
                      case measure => simp [intOf]; omega
                · have htn : (trn l X != (k : Int)) = true := by simpa using ht
                  have HR := Lib.hid (NO.out (step_train ht))
                  go_wp2_with fail
                  refine (HIX.out X _).mono ?_
                  rintro e w4 ⟨rfl, hw4⟩
                  rw [hw4, hbx]
                  clear hw4
                  go_wp2_with fail
                  go_ret2
                  exact ⟨ret_rb HR.out, BW.out⟩
              · have HR := Lib.hid (NO.out (step_seen hsn))
                rw [hsn] at csn
                have hXL' : (X : Int) < (L : Int) := by omega
                go_wp2_with fail
                refine (HIX.out X _).mono ?_
                rintro e w4 ⟨rfl, hw4⟩
                rw [hw4, hbx]
                clear hw4
                go_wp2_with fail
                go_ret2
                exact ⟨ret_rb HR.out, BW.out⟩
          · obtain rfl : n = N := by omega
            have Z2 := Lib.hid (show si.length = l.length ∧ goT l 0 (List.replicate l.length false) ts = goT l ((k : Int) + 1) si (ts.drop (k + 1)) from ⟨I.out.len, by
              rw [ZD.out]
              refine goT_ok ?_
              rw [I.out.eq, HN.out, List.drop_length]; rfl⟩)
            clear I hln
            go_wp2_with fail
            go_roundw
            case rel => exact ⟨k + 1, si, by omega, by go_num, Si, Z2, Bi⟩
            case measure => simp [intOf]; omega
      · obtain rfl : k = T := by omega
        have HR := Lib.hid (show sortE l wt ts = (!hasF s, 0) from by
          rw [HE.out, sortedB_some (by rw [Z.out.2, HT.out, List.drop_length]; rfl)])
        have HF := hasFalse_any s g L wr S.out (by rw [Z.out.1, ← HL.out]; unfold maxLen; omega)
        rw [Z.out.1, ← HL.out] at HF
        have HF := Lib.hid HF
        clear Z hlt
        go_wp2_with fail
        refine HF.out.mono ?_
        rintro e w4 ⟨rfl, hw4⟩
        rw [hw4]
        clear hw4
        go_wp2_with fail
        go_ret2
        exact ⟨ret_rb HR.out, BW.out⟩
  · have HE := Lib.hid (show sortE l wt ts = (false, validR l wt) from if_neg he)
    have hne : (validR l wt != 0) = true := bne_iff_ne.2 he
    clear he
    go_wp2_with fail
    go_ret2
    exact ⟨ret_rb HE.out, B2.out⟩
end Go.Proofs.Ytlagadbkencpbaa

namespace Go.Proofs.Ytlagadbkencpbaa
open Go.RowKit Go.Lib

/-- What is seen behind a list. -/
def mark (s : List Bool) : List Nat → List Bool
  | [] => s
  | x :: p => mark (s.set x true) p
theorem mark_len (s : List Bool) (p : List Nat) : (mark s p).length = s.length := by
  induction p generalizing s with
  | nil => rfl
  | cons x p ih => show (mark (s.set x true) p).length = _; rw [ih, List.length_set]
theorem set_get (s : List Bool) (x j : Nat) (hx : x < s.length) : (s.set x true).getD j false = (s.getD j false || decide (j = x)) := by
  rw [List.getD_eq_getElem?_getD, List.getElem?_set]
  by_cases e : x = j
  · subst e; simp [hx]
  · rw [if_neg e, ← List.getD_eq_getElem?_getD]; simp [Ne.symm e]
theorem mark_get {s : List Bool} {p : List Nat} (hp : ∀ x ∈ p, x < s.length) (j : Nat) : (mark s p).getD j false = (s.getD j false || decide (j ∈ p)) := by
  induction p generalizing s with
  | nil => simp [mark]
  | cons x p ih =>
    show (mark (s.set x true) p).getD j false = _
    rw [ih (fun y hy => by rw [List.length_set]; exact hp y (List.mem_cons_of_mem _ hy)), set_get s x j (hp x (List.mem_cons_self ..))]
    by_cases h1 : j = x <;> by_cases h2 : j ∈ p <;> simp [h1, h2]
/-- A good list of train t. -/
structure GoodT (l : List It) (t : Int) (p : List Nat) : Prop where
  mem : ∀ x ∈ p, x < l.length ∧ trn l x = t
  asc : p.Pairwise fun x y => blk l x ≤ blk l y
  nod : p.Nodup
theorem goL_good {l : List It} {t : Int} {p : List Nat} (h : GoodT l t p) {prev : Option Int} {s : List Bool} (hs : s.length = l.length) (hf : ∀ x ∈ p, s.getD x false = false)
    (hp : ∀ y, prev = some y → ∀ x ∈ p, blk l y.toNat ≤ blk l x) : goL l t prev s (toZ p) = some (mark s p) := by
  induction p generalizing prev s with
  | nil => rfl
  | cons x p ih =>
    obtain ⟨hx, ht⟩ := h.mem x (List.mem_cons_self ..)
    have hnx := (List.nodup_cons.1 h.nod)
    have hax := (List.pairwise_cons.1 h.asc)
    have ok : stepOk l t prev s (x : Int) = true := by
      have h1 : btw (x : Int) 0 ((l.length : Int) - 1) = true := btw_iff.2 (by omega)
      have h2 : s.getD (x : Int).toNat false = false := hf x (List.mem_cons_self ..)
      have h3 : trn l (x : Int).toNat = t := ht
      cases prev with
      | none => exact step_first h1 h2 h3
      | some y =>
        rw [step_next h1 h2 h3]
        have h4 : blk l y.toNat ≤ blk l (x : Int).toNat := hp y rfl x (List.mem_cons_self ..)
        rw [decide_eq_false (by omega)]; rfl
    show goL l t prev s ((x : Int) :: toZ p) = _
    rw [goL_ok ok]
    show goL l t (some (x : Int)) (s.set x true) (toZ p) = some (mark (s.set x true) p)
    refine ih ⟨fun y hy => h.mem y (List.mem_cons_of_mem _ hy), hax.2, hnx.2⟩ (by rw [List.length_set]; exact hs) (fun y hy => ?_) (fun y hy z hz => ?_)
    · rw [set_get s x y (by rw [hs]; exact hx), hf y (List.mem_cons_of_mem _ hy)]
      have : y ≠ x := fun e => hnx.1 (e ▸ hy)
      simp [this]
    · injection hy with hy
      subst hy
      exact hax.1 z hz
/-- Two neighbours that fall. -/
theorem goL_fall {l : List It} {t : Int} {a b : Nat} {pre post : List Nat} (h : blk l a < blk l b) {prev : Option Int} {s : List Bool} : goL l t prev s (toZ (pre ++ b :: a :: post)) = none := by
  induction pre generalizing prev s with
  | nil =>
    show goL l t prev s ((b : Int) :: (a : Int) :: toZ post) = none
    cases h1 : stepOk l t prev s (b : Int) with
    | false => exact goL_no h1
    | true =>
      rw [goL_ok h1]
      refine goL_no ?_
      unfold stepOk
      have : decide (blk l (a : Int).toNat < blk l (b : Int).toNat) = true := decide_eq_true h
      show (_ && (!decide (blk l (a : Int).toNat < blk l (b : Int).toNat))) = false
      rw [this]; simp
  | cons x pre ih =>
    show goL l t prev s ((x : Int) :: toZ (pre ++ b :: a :: post)) = none
    cases h1 : stepOk l t prev s (x : Int) with
    | false => exact goL_no h1
    | true => rw [goL_ok h1]; exact ih
/-- What is seen behind the lists. -/
def markT (s : List Bool) : List (List Nat) → List Bool
  | [] => s
  | p :: r => markT (mark s p) r
theorem goT_good {l : List It} {ts : List (List Nat)} : ∀ (t : Int) (s : List Bool), (∀ (k : Nat) p, ts[k]? = some p → GoodT l (t + k) p ∧ ∀ x ∈ p, s.getD x false = false) → s.length = l.length → goT l t s (ts.map toZ) = some (markT s ts) := by
  induction ts with
  | nil => intro t s _ _; rfl
  | cons p r ih =>
    intro t s h hs
    obtain ⟨g, hf⟩ := h 0 p rfl
    have g' : GoodT l t p := by have := g; rwa [show t + ((0 : Nat) : Int) = t by omega] at this
    have e := goL_good g' hs hf (prev := none) (fun y hy => by cases hy)
    show goT l t s (toZ p :: r.map toZ) = some (markT (mark s p) r)
    rw [goT_ok e]
    refine ih (t + 1) (mark s p) (fun k q hq => ?_) (by rw [mark_len]; exact hs)
    obtain ⟨g2, hf2⟩ := h (k + 1) q hq
    have e2 : t + ((k + 1 : Nat) : Int) = t + 1 + (k : Int) := by omega
    rw [e2] at g2
    refine ⟨g2, fun x hx => ?_⟩
    rw [mark_get (fun y hy => by rw [hs]; exact (g'.mem y hy).1), hf2 x hx]
    have : x ∉ p := fun hxp => by
      have h1 := (g'.mem x hxp).2
      have h2 := (g2.mem x hx).2
      omega
    simp [this]
theorem goT_fall {l : List It} {ts : List (List Int)} {k : Nat} {q : List Int} (hq : ts[k]? = some q) (hn : ∀ t s, goL l t none s q = none) : ∀ (t : Int) (s : List Bool), goT l t s ts = none := by
  induction ts generalizing k with
  | nil => simp at hq
  | cons p r ih =>
    intro t s
    cases k with
    | zero =>
      injection hq with hq
      subst hq
      exact goT_no (hn t s)
    | succ k =>
      cases h1 : goL l t none s p with
      | none => exact goT_no h1
      | some s' => rw [goT_ok h1]; exact ih hq (t + 1) s'
theorem markT_get {ts : List (List Nat)} : ∀ (s : List Bool), (∀ p ∈ ts, ∀ x ∈ p, x < s.length) → ∀ j, (markT s ts).getD j false = (s.getD j false || decide (∃ p ∈ ts, j ∈ p)) := by
  induction ts with
  | nil => intro s _ j; simp [markT]
  | cons p r ih =>
    intro s h j
    show (markT (mark s p) r).getD j false = _
    rw [ih (mark s p) (fun q hq x hx => by rw [mark_len]; exact h q (List.mem_cons_of_mem _ hq) x hx) j, mark_get (h p (List.mem_cons_self ..))]
    rw [Bool.eq_iff_iff]
    simp only [Bool.or_eq_true, decide_eq_true_eq, List.mem_cons, exists_eq_or_imp]
    exact or_assoc
theorem markT_len (s : List Bool) (ts : List (List Nat)) : (markT s ts).length = s.length := by
  induction ts generalizing s with
  | nil => rfl
  | cons p r ih => show (markT (mark s p) r).length = _; rw [ih, mark_len]
/-- GoodT lists that hold each item are sorted. -/
theorem sorted_good {l : List It} {ts : List (List Nat)} (h : ∀ (k : Nat) p, ts[k]? = some p → GoodT l (k : Int) p) (hall : ∀ x, x < l.length → ∃ p ∈ ts, x ∈ p) : sortedB l (ts.map toZ) = true := by
  have hr : ∀ j, (List.replicate l.length false).getD j false = false := fun j => by
    rw [List.getD_eq_getElem?_getD, List.getElem?_replicate]; split <;> rfl
  have e := goT_good (l := l) (ts := ts) 0 (List.replicate l.length false) (fun k p hp => ⟨by rw [Int.zero_add]; exact h k p hp, fun x _ => hr x⟩) (by simp)
  rw [sortedB_some e]
  have hf : hasF (markT (List.replicate l.length false) ts) = false := by
    unfold hasF
    rw [Bool.eq_false_iff]
    intro hc
    rw [List.contains_iff_mem] at hc
    obtain ⟨i, hi⟩ := List.mem_iff_getElem?.1 hc
    have hil := (List.getElem?_eq_some_iff.1 hi).1
    rw [markT_len, List.length_replicate] at hil
    have h1 := markT_get (ts := ts) (List.replicate l.length false) (fun p hp x hx => by
      obtain ⟨k, hk⟩ := List.mem_iff_getElem?.1 hp
      rw [List.length_replicate]
      exact ((h k p hk).mem x hx).1) i
    rw [List.getD_eq_getElem?_getD, hi, hr, decide_eq_true (hall i hil)] at h1
    cases h1
  rw [hf]; rfl
theorem sorted_fall {l : List It} {ts : List (List Int)} {k : Nat} {pre post : List Nat} {a b : Nat} (hq : ts[k]? = some (toZ (pre ++ b :: a :: post))) (h : blk l a < blk l b) : sortedB l ts = false :=
  sortedB_no (goT_fall hq (fun t s => goL_fall h) _ _)
/-- The relation of x and y holds of the codes; those of x to the first k; those of the first k. -/
def okR (l : List It) (v : List Int) (x y : Nat) : Bool := rel l x y == 0 || decide (v.getD x 0 + str1 l x y ≤ v.getD y 0)
def rowR (l : List It) (v : List Int) (x k : Nat) : Bool := (List.range k).all fun y => okR l v x y
def allR (l : List It) (v : List Int) (k : Nat) : Bool := (List.range k).all fun x => rowR l v x l.length
theorem rowR_succ (l : List It) (v : List Int) (x k : Nat) : rowR l v x (k + 1) = (rowR l v x k && okR l v x k) := by
  unfold rowR; rw [List.range_succ, List.all_append]; simp
theorem allR_succ (l : List It) (v : List Int) (k : Nat) : allR l v (k + 1) = (allR l v k && rowR l v k l.length) := by
  unfold allR; rw [List.range_succ, List.all_append]; simp
theorem desc (l : List It) : ∀ p : List Nat, p.Pairwise (fun x y => blk l x ≤ blk l y) ∨ ∃ pre b a post, p = pre ++ b :: a :: post ∧ blk l a < blk l b := by
  intro p
  induction p with
  | nil => exact Or.inl List.Pairwise.nil
  | cons b p ih =>
    rcases ih with h | ⟨pre, b', a, post, rfl, h⟩
    · cases p with
      | nil => exact Or.inl (List.pairwise_singleton _ _)
      | cons a post =>
        by_cases g : blk l a < blk l b
        · exact Or.inr ⟨[], b, a, post, rfl, g⟩
        · refine Or.inl (List.pairwise_cons.2 ⟨fun y hy => ?_, h⟩)
          rcases List.mem_cons.1 hy with rfl | hy
          · omega
          · have := (List.pairwise_cons.1 h).1 y hy
            omega
    · exact Or.inr ⟨b :: pre, b', a, post, rfl, h⟩
theorem getD_memL {ts : List (List Nat)} {b : Nat} (h : b < ts.length) : ts[b]? = some (ts.getD b []) ∧ ts.getD b [] ∈ ts := by
  have e : ts[b]? = some (ts.getD b []) := by rw [List.getD_eq_getElem?_getD, List.getElem?_eq_getElem h]; rfl
  exact ⟨e, List.mem_of_getElem? e⟩
theorem sor_plain {l : List It} {wt : Int} {S : Nat} {v : List Int} (h : Pl l wt S v) :
    sortedB l ((mT S l.length (tnT l) (cdN v) (rdN l) (tnN l) (S + 1)).map toZ) = allR l v l.length := by
  have hf := h.fitN
  have hlen : (mT S l.length (tnT l) (cdN v) (rdN l) (tnN l) (S + 1)).length = tnT l := mT_len _
  have hon := fun b (hb : b < tnT l) => onT_end hf hb
  obtain ⟨ts, hts⟩ : ∃ ts, ts = mT S l.length (tnT l) (cdN v) (rdN l) (tnN l) (S + 1) := ⟨_, rfl⟩
  rw [← hts] at hlen hon ⊢
  cases hall : allR l v l.length with
  | true =>
    have hok : ∀ x y, x < l.length → y < l.length → okR l v x y = true := fun x y hx hy => by
      have h1 := List.all_eq_true.1 hall x (List.mem_range.2 hx)
      exact List.all_eq_true.1 h1 y (List.mem_range.2 hy)
    refine sorted_good (fun k p hp => ?_) (fun x hx => ?_)
    · have hk : k < ts.length := (List.getElem?_eq_some_iff.1 hp).1
      obtain ⟨h1, h2⟩ := hon k (by omega)
      have hpe : ts.getD k [] = p := by rw [List.getD_eq_getElem?_getD, hp]; rfl
      rw [hpe] at h1 h2
      refine ⟨fun x hx => ?_, h2.imp_of_mem fun {x y} hx hy hxy => ?_, h2.imp fun {x y} hxy e => ?_⟩
      · obtain ⟨a1, a2⟩ := (h1 x).1 hx
        exact ⟨a1, by rw [(h.tn a1).1, a2]⟩
      · obtain ⟨a1, a2⟩ := (h1 x).1 hx
        obtain ⟨b1, b2⟩ := (h1 y).1 hy
        rcases Int.lt_or_le (blk l y) (blk l x) with g | g
        · exfalso
          have hr : rel l y x = if x < y then 2 else 1 := by
            unfold rel
            rw [if_neg (by rw [(h.tn a1).1, (h.tn b1).1, a2, b2]; omega)]
          have ho := hok y x b1 a1
          unfold okR str1 at ho
          rw [(h.cd a1).1, (h.cd b1).1, hr] at ho
          by_cases hxy2 : x < y
          · rw [if_pos hxy2] at ho
            simp at ho
            omega
          · rw [if_neg hxy2] at ho
            simp at ho
            omega
        · exact g
      · subst e; omega
    · have ht := (h.tn hx).2
      obtain ⟨h1, h2⟩ := hon (tnN l x) ht
      exact ⟨_, (getD_memL (by omega)).2, (h1 x).2 ⟨hx, rfl⟩⟩
  | false =>
    obtain ⟨x, hx, hx2⟩ : ∃ x, x < l.length ∧ rowR l v x l.length = false := by
      rw [← Bool.not_eq_true, allR, List.all_eq_true] at hall
      simp only [List.mem_range] at hall
      exact Classical.byContradiction fun e => hall fun x hx => by
        cases g : rowR l v x l.length with
        | true => rfl
        | false => exact absurd ⟨x, hx, g⟩ e
    obtain ⟨y, hy, hy2⟩ : ∃ y, y < l.length ∧ okR l v x y = false := by
      rw [← Bool.not_eq_true, rowR, List.all_eq_true] at hx2
      simp only [List.mem_range] at hx2
      exact Classical.byContradiction fun e => hx2 fun y hy => by
        cases g : okR l v x y with
        | true => rfl
        | false => exact absurd ⟨y, hy, g⟩ e
    unfold okR at hy2
    rw [Bool.or_eq_false_iff, beq_eq_false_iff_ne, decide_eq_false_iff_not] at hy2
    obtain ⟨r1, r2⟩ := hy2
    obtain ⟨t1, t2⟩ := rel_pos r1
    have htn : tnN l x = tnN l y := by
      have e1 := (h.tn hx).1
      have e2 := (h.tn hy).1
      omega
    have ht := (h.tn hx).2
    obtain ⟨h1, h2⟩ := hon (tnN l x) ht
    have hxp := (h1 x).2 ⟨hx, rfl⟩
    have hyp := (h1 y).2 ⟨hy, htn.symm⟩
    obtain ⟨hg, _⟩ := getD_memL (ts := ts) (b := tnN l x) (by omega)
    obtain ⟨p, hp⟩ : ∃ p, p = ts.getD (tnN l x) [] := ⟨_, rfl⟩
    rw [← hp] at h2 hxp hyp hg
    rw [(h.cd hx).1, (h.cd hy).1] at r2
    rcases desc l p with hd | ⟨pre, b, a, post, e, hb⟩
    · exfalso
      obtain ⟨i, hi, rfl⟩ := List.mem_iff_getElem.1 hxp
      obtain ⟨j, hj, rfl⟩ := List.mem_iff_getElem.1 hyp
      rcases Nat.lt_trichotomy i j with g | g | g
      · have q := List.pairwise_iff_getElem.1 h2 i j hi hj g
        have hs : str1 l p[i] p[j] = if p[j] < p[i] then 1 else 0 := by
          have hrl : rel l p[i] p[j] = if p[j] < p[i] then 2 else 1 := by
            unfold rel
            rw [if_neg (by rintro (e | e) <;> omega)]
          unfold str1
          rw [hrl]
          by_cases c : p[j] < p[i]
          · rw [if_pos c, if_pos c]; rfl
          · rw [if_neg c, if_neg c]; rfl
        rw [hs] at r2
        split at r2 <;> omega
      · subst g; omega
      · have q := List.pairwise_iff_getElem.1 hd j i hj hi g
        omega
    · refine sorted_fall (k := tnN l x) (pre := pre) (post := post) (a := a) (b := b) ?_ hb
      rw [List.getElem?_map, hg, e]; rfl
end Go.Proofs.Ytlagadbkencpbaa

namespace Go.Proofs.Ytlagadbkencpbaa
open Go.RowKit Go.Lib

theorem Pl.set {l : List It} {wt : Int} {S : Nat} {v : List Int} (h : Pl l wt S v) {i z : Nat} (hi : i < l.length) (hz : isC (rdN l i) wt.toNat z = true) (hl : z < 2 ^ S) : Pl l wt S (v.set i (z : Int)) := by
  have hf := formOk_of h.val
  refine ⟨h.val, fitB_iff.2 ⟨by have := h.s12; omega, by rw [List.length_set]; exact h.len, fun x hx => ?_⟩⟩
  by_cases e : i = x
  · subst e
    unfold okC
    have hat : (v.set i (z : Int)).getD i 0 = z := by
      rw [List.getD_eq_getElem?_getD, List.getElem?_set, if_pos rfl, if_pos (by rw [h.len]; exact hi)]; rfl
    have e2 : (2 : Int) ^ ((S : Int)).toNat = ((2 ^ S : Nat) : Int) := by simp
    obtain ⟨V, hV⟩ := Int.eq_ofNat_of_zero_le hf.wb.1
    rw [hat, (h.rd hi).1, e2, decide_eq_true (show (z : Int) < ((2 ^ S : Nat) : Int) by omega)]
    rw [hV] at hz ⊢
    rw [isZ_nat (h.rd hi).2 (by have := hf.wb.2; omega)]
    exact hz
  · have := (fitB_iff.1 h.fit).2.2 x hx
    unfold okC at this ⊢
    rw [List.getD_eq_getElem?_getD, List.getElem?_set, if_neg e, ← List.getD_eq_getElem?_getD]
    exact this
/-- A plan in the block g whose list may be any other of the call's own. -/
structure PQ (wr : World) (m g : Nat) (st : Int) (A : Option Addr) (n c : Nat) (v : List Int) : Prop where
  box : PBox wr g st A n c
  own : Own .i64 3 wr (m + 1) (.slice A n c) v
  ne : ∀ q, (Value.slice A n c).ownBlock = some q → q ≠ g
  len : n = v.length
  lt : m < g
section
variable {w w' : World} {m g n c : Nat} {st : Int} {A : Option Addr} {v : List Int}
theorem PQ.of (h : PSt w m g st A n c v) : PQ w m g st A n c v := ⟨h.box, h.own, fun q hq => by have := h.lo q hq; omega, h.len, h.lt⟩
theorem PQ.below (h : PQ w m g st A n c v) (k : Below w.heap.size w w') : PQ w' m g st A n c v := ⟨h.box.below k h.box.lt, h.own.below k, h.ne, h.len, h.lt⟩
theorem PQ.step (h : PQ w m g st A n c v) (k : Moves m w w') : PQ w' m g st A n c v := ⟨h.box.moves k (by have := h.lt; omega), h.own.moves k (Nat.lt_succ_self _), h.ne, h.len, h.lt⟩
theorem PQ.row (h : PQ w m g st A n c v) : Row .i64 w w.heap.size A v ∧ v.length ≤ maxLen := by
  obtain ⟨A', c', ev, LR, -, hm, -⟩ := h.own.slice
  have e1 : A = A' := by injection ev
  subst e1
  exact ⟨LR, hm⟩
theorem PBox.setN {b : Nat} (h : PBox w b st A n c) {p : Addr} (hp : p.block ≠ b) (u : Value) : PBox (w.setCell p u) b st A n c := by
  have nb : ∀ j, p ≠ ⟨b, j, none⟩ := fun j e => hp (congrArg Addr.block e)
  exact ⟨(World.cell?_setCell_other _ _ _ _ (nb 0)).trans h.c0, (World.cell?_setCell_other _ _ _ _ (nb 1)).trans h.c1, fun j => by rw [World.frozen?_setCell]; exact h.f j, by rw [World.size_setCell]; exact h.lt⟩
/-- The box g1 takes the plan of the box g. -/
theorem PQ.put {g1 n1 c1 : Nat} {st1 : Int} {A1 : Option Addr} (h : PQ w m g st A n c v) (p : PBox w g1 st1 A1 n1 c1) (hm : m < g1) (hne : g1 ≠ g) (ho : ∀ q, (Value.slice A n c).ownBlock = some q → q ≠ g1) :
    PQ ((w.setCell ⟨g1, 0, none⟩ (.int .i64 st)).setCell ⟨g1, 1, none⟩ (.slice A n c)) m g1 st A n c v ∧ PQ ((w.setCell ⟨g1, 0, none⟩ (.int .i64 st)).setCell ⟨g1, 1, none⟩ (.slice A n c)) m g st A n c v :=
  have O := (h.own.setN (p := ⟨g1, 0, none⟩) ho (.int .i64 st)).setN (p := ⟨g1, 1, none⟩) ho (.slice A n c)
  ⟨⟨p.put, O, ho, h.len, hm⟩, ⟨(h.box.setN (p := ⟨g1, 0, none⟩) hne _).setN (p := ⟨g1, 1, none⟩) hne _, O, h.ne, h.len, h.lt⟩⟩
/-- A code is stored. -/
theorem PQ.code {gq : Nat} (h : PQ w m g st (some ⟨gq, 0, none⟩) n c v) (j : Nat) (x : Int) : PQ (w.setCell ⟨gq, j, none⟩ (.int .i64 x)) m g st (some ⟨gq, 0, none⟩) n c (v.set j x) :=
  ⟨h.box.setN (p := ⟨gq, j, none⟩) (h.ne gq rfl) _, h.own.store h.len j x, h.ne, by rw [List.length_set]; exact h.len, h.lt⟩
theorem JM.setC {w0 wr : World} {b cj N : Nat} {jA : Option Addr} {l : List It} {wt : Int} (h : JM w0 wr b jA cj l wt N) {p : Addr} (hp : b < p.block) (u : Value) : JM w0 (wr.setCell p u) b jA cj l wt N :=
  h.under (B := b + 1) ((Below.refl (b + 1) wr).setCell (p := p) hp u) (Nat.lt_succ_self b)
end
end Go.Proofs.Ytlagadbkencpbaa

namespace Go.Proofs.Ytlagadbkencpbaa
open Go.RowKit Go.Lib

end Go.Proofs.Ytlagadbkencpbaa

namespace Go.Proofs.Ytlagadbkencpbaa
open Go.RowKit Go.Lib

theorem okR_ordA (l : List It) (v : List Int) (x y : Nat) : okR l v x y = ordA l v x y := by
  unfold okR ordA
  by_cases h : rel l x y = 0
  · have h1 : (rel l x y == 0) = true := by rw [h]; rfl
    rw [h1, decide_eq_true h]
  · have h1 : (rel l x y == 0) = false := beq_eq_false_iff_ne.2 h
    rw [h1, decide_eq_false h]
theorem allR_ordB (l : List It) (v : List Int) : allR l v l.length = ordB l v := by
  unfold allR ordB rowR
  simp only [okR_ordA]
theorem plan_of {l : List It} {wt : Int} {S : Nat} {v : List Int} (h : Pl l wt S v) (ho : ordB l v = true) : Plan l wt v := by
  refine ⟨fun y hy => ?_, fun x y hx hy => ?_⟩
  · have h1 := (fitB_iff.1 h.fit).2.2 y hy
    unfold okC at h1
    rw [Bool.and_eq_true] at h1
    have h2 := h1.2
    unfold isZ at h2
    rw [Bool.and_eq_true, Bool.and_eq_true] at h2
    have h3 := h2.2.1
    unfold cdB at h3
    rw [decide_eq_true_eq] at h3
    exact ⟨(v.getD y 0).toNat, by omega, h2.2.2⟩
  · have h1 := ordB_iff.1 ho x hx y hy
    unfold ordA at h1
    by_cases hr : rel l x y = 0
    · rw [via_zero hr]
      have h2 := (val14_ok h.val14).2.2.2 y hy
      omega
    · rw [decide_eq_false hr, Bool.false_or, decide_eq_true_eq] at h1
      rw [via_str hr]
      exact h1
theorem ord_plan {l : List It} {wt : Int} {v : List Int} (h : Plan l wt v) : ordB l v = true := ordB_iff.2 fun x hx y hy => by
  unfold ordA
  by_cases hr : rel l x y = 0
  · rw [decide_eq_true hr]; rfl
  · have := h.sort x y hx hy
    rw [via_str hr] at this
    rw [decide_eq_true this, Bool.or_true]
theorem bound_witP {l : List It} {wt er : Int} {zs : List Int} {bs v : List Int} (hv : validR l wt = 0) (h : Sol l wt bs v) (hw : WitR l wt zs er) : er = 0 ∧ boundE l wt zs = (mx0 v v.length, 0) := by
  have hf := formOk_of hv
  rcases hw.valid hv with ⟨_, _, hno⟩ | ⟨rfl, bs', v', h', hz⟩
  · exact absurd h (hno _ _)
  · obtain ⟨rfl, rfl⟩ := h'.uniq hf.blk h
    refine ⟨rfl, ?_⟩
    unfold boundE
    rw [if_neg (fun g => g hv)]
    rcases hz with ⟨h0, rfl⟩ | ⟨y, ch, hy, hb, rfl⟩
    · have e : v'.length = 0 := by rw [h.vlen, h0]
      rw [e]; rfl
    · obtain ⟨b1, b2⟩ := hb.bound hf h (by rw [← h.vlen]; exact hy.lt)
      rw [if_pos (chB_iff.2 ⟨ch, rfl, b1⟩), map_toZ, b2, mx0_top hy (fun y => (h.bound hf y).1.1)]
theorem chk_make {l : List It} {wt st : Int} {v ch : List Int} (hv : validR l wt = 0) (h : MakeR l wt st v ch 0) : chkE l wt st v ch = 0 := by
  rcases h.1.valid hv with ⟨h5, _⟩ | ⟨_, bs, h5, h6⟩
  · cases h5
  · have hf := formOk_of hv
    obtain ⟨S, hS, hpl⟩ := sol_pl hv h5 h6
    obtain ⟨_, hb⟩ := bound_witP hv h5 h.2
    have h0 := h5.bound hf
    have h3 := steps_mx0 h6 (fun y => (h0 y).1.1)
    have hval : val14 l wt st v = 0 := by rw [hS]; exact hpl.val14
    have hm := mx0_le v v.length
    have hbd := bound_bd (ch := ch) hv (by rw [hb])
    rw [hb] at hbd
    unfold chkE
    rw [if_neg (fun g => g hval), if_neg (by rw [ord_plan (h5.plan hf)]; exact Bool.noConfusion), hb, if_neg (fun g => g rfl), if_pos]
    simp only at hbd
    obtain ⟨K, hK⟩ := Int.eq_ofNat_of_zero_le hm.1
    show (stepsZ (mx0 v v.length)).1 = st
    rw [hK] at h3 hbd ⊢
    rw [stepsZ_nat (by omega), h3]
    rfl
theorem ln_lt {M S : Nat} (hM : M < 2 ^ S) (hS : S ≤ 12) : ln M ≤ S := by
  by_cases h0 : M = 0
  · subst h0; rw [ln_zero]; exact Nat.zero_le _
  · have hp := pow_le4096 hS
    have := (ln_bd (x := M) (by omega)).2 h0
    have h2 : 2 ^ (ln M - 1) < 2 ^ S := Nat.lt_of_le_of_lt this hM
    have := (Nat.pow_lt_pow_iff_right (by decide)).1 h2
    omega
theorem chk_steps {l : List It} {wt st st' er : Int} {v ch v' : List Int} (h : chkE l wt st v ch = 0) (k : LeastR l wt st' v' er) : er = 0 ∧ st' = st := by
  obtain ⟨h1, h2, h3, h4⟩ := chk_parts h
  obtain ⟨S, rfl, hpl⟩ := val14_zero h1
  have hv := hpl.val
  have hf := formOk_of hv
  have hp := plan_of hpl h2
  rcases k.valid hv with ⟨_, _, _, hno⟩ | ⟨e, bs, h5, h6⟩
  · obtain ⟨bs, u, hu⟩ := sol_ex hf hp
    exact absurd hu (hno _ _)
  · refine ⟨e, ?_⟩
    have ha := bound_steps hv h5 h6 h3
    rw [h4] at ha
    have hle : st' ≤ (S : Int) := by
      rcases h6 with ⟨_, rfl⟩ | ⟨M, hM, rfl⟩
      · omega
      · obtain ⟨x, hx, hxM⟩ := hM.hit
        rw [h5.vlen] at hx
        have hlt := (h5.least hf hp x hx).2
        have hc := (fitB_iff.1 hpl.fit).2.2 x hx
        unfold okC at hc
        rw [Bool.and_eq_true, decide_eq_true_eq] at hc
        have e2 : (2 : Int) ^ ((S : Int)).toNat = ((2 ^ S : Nat) : Int) := by simp
        rw [e2] at hc
        have h0 := (h5.bound hf x).1.1
        rw [hxM] at hlt h0
        have := ln_lt (M := M.toNat) (S := S) (by omega) hpl.s12
        omega
    omega
end Go.Proofs.Ytlagadbkencpbaa
