/-
  Stage 10: the maker's Layout: a valid layout with up to n switches.
-/
import Derived.Test.YtdoifaifhikkjaaGreatDoorTElem
import Derived.Test.YtdoifaifhikkjaaGreatDoorQue
set_option linter.unusedSimpArgs false
set_option linter.unusedVariables false
namespace Go.Proofs.YtdoifaifhikkjaaGreatDoor
open Go.RowKit

/-- Two numbers that lie side by side. -/
def QR : Rec (Int × Int) := ⟨2, by decide, fun p => [.int .i64 p.1, .int .i64 p.2], fun _ => rfl, fun x u hu => by
  simp only [List.mem_cons, List.not_mem_nil, or_false] at hu
  rcases hu with h | h <;> subst h <;> rfl⟩
theorem ROwn.lit {α : Type} {R : Rec α} {T : TypeId} {w : World} {base : Nat} (l : List α) (hm : l.length ≤ maxLen) (hb : base ≤ w.heap.size) (b : Nat) (hbb : b = w.heap.size) :
    ROwn R T (w.alloc (.cells (R.flat l).toArray T)) base (.slice (some ⟨b, 0, none⟩) l.length l.length) l := by
  subst hbb
  refine ⟨flatR_len R l, Or.inr ⟨w.heap.size, l.length, (R.flat l).toArray, rfl, hb, heap_alloc_new w _, Nat.le_refl _, hm, by simp [flatR_len], ?_⟩⟩
  rw [← flatR_len]
  simp
theorem infoE : (Tryz.prog.info? 39).map (fun i => (i.zero, i.size, i.bytes)) = some (some (aggE zeroE), 8, 72) := by kernel_rfl
theorem infoQ : (Tryz.prog.info? 40).map (fun i => (i.zero, i.size, i.bytes)) = some (some (.agg #[.int .i64 0, .int .i64 0]), 2, 16) := by kernel_rfl
/-- What an append of one element leaves. -/
def AppE (base : Nat) (v : Value) (l : List El) (x : El) (W : World) (v' : Value) (w' : World) : Prop :=
  ROwn ER 39 w' base v' (l ++ [x]) ∧ W.grownBy w' v.ownBlock ∧ (v'.ownBlock = v.ownBlock ∨ v'.ownBlock = some W.heap.size) ∧ ∃ g c, v' = .slice (some ⟨g, 0, none⟩) (l.length + 1) c
theorem wpList_appE (W : World) {ops : Array Oper} {rest : List Oper} {o : Oper} {a : Act} {Q : Exit → Act → World → Prop} (hgd : o.guard = none) (s x : Operand)
    (ho : o.op = .call { callee := .builtin .append, args := #[s, x], argTypes := #[23, 23] }) (base : Nat) (v : Value) (l : List El) (hs : a.eval s = v) (O : ROwn ER 39 W base v l)
    (y : El) (w0 : World) (hW : W = w0.alloc (objE y)) (z : Nat) (hz : w0.heap.size = z) (c : Nat) (hx : a.eval x = .slice (some ⟨z, 0, none⟩) 1 c)
    (hl : l.length + 1 ≤ 1000000000) (hb : base ≤ W.heap.size)
    (h : ∀ v' w', AppE base v l y W v' w' → wpList Tryz.prog ops Q rest (a.put o.dst v') w') : wpList Tryz.prog ops Q (o :: rest) a W := by
  obtain ⟨i0, hi, hz0, hz1, hz2⟩ := info_parts infoE
  subst hz
  refine wpList_append_own_at W hgd s x 23 ho base 39 i0 (aggE zeroE) 8 72 Tryz.underlying23 hi hz0 hz1 hz2 rfl (by decide) v l.length (ER.flat l) hs O ⟨w0.heap.size, 0, none⟩ 1 c (ER.flat [y]) hx (flatR_len ER [y]) (by rw [hW]; exact newR (R := ER) (l := [y])) (flatR_one ER [y]) (by unfold maxLen; omega) (by omega) hb ?_
  intro v' w1 hown hg hnil hat
  have ho2 : ROwn ER 39 w1 base v' (l ++ [y]) := ROwn.app (R := ER) (m := [y]) hown rfl rfl
  refine h v' w1 ⟨ho2, hg, hat, ?_⟩
  obtain ⟨A, c', e, _, _, _, hA, _⟩ := ho2.full
  obtain ⟨g, e2, _⟩ := hA (by simp)
  subst e2
  exact ⟨g, c', by rw [e]; simp⟩
theorem elemQ : Tryz.prog.elem 41 = 40 := by kernel_rfl
theorem sizeQ (w : World) : (Go.sizeOf 40).run Tryz.prog w = .ok 2 w := by kernel_rfl
theorem slice_que (ao : Option Addr) (n c : Nat) (W : World) (h1 : 1 ≤ n) : (Instr.slice 41 (.slice ao n c) (some (.int .i64 1)) none none).run Tryz.prog W = .ok (.slice (if c = 1 then ao else ao.map (·.add (1 * 2))) (n - 1) (c - 1)) W := by
  rw [run_slice_l (P := Tryz.prog) W 41 ao n c (by rw [elemQ]; exact Tryz.underlying41) .i64 1 (by omega) (by omega), elemQ]
  simp [sizeQ, Result.andThen, sliced]
/-- Where the layout stands: the elements l, the places O that wait. -/
structure LIn (w : World) (base b : Nat) (lv ov : Value) (l : List El) (O : List (Int × Int)) : Prop where
  own : ROwn ER 39 w base lv l
  que : Que QR w b ov O
  hb : base ≤ b
  ne : lv.ownBlock ≠ some b
def lenV : Value → Nat
  | .slice _ n _ => n
  | _ => 0
def SideE (O : List (Int × Int)) : Prop := ∀ p ∈ O, 0 ≤ p.2 ∧ p.2 ≤ 2
theorem LIn.moves {m : Nat} {w w' : World} {base b : Nat} {lv ov : Value} {l : List El} {O : List (Int × Int)} (h : LIn w base b lv ov l O) (k : Moves m w w') (hm : m < base) : LIn w' base b lv ov l O :=
  ⟨h.own.moves k hm, h.que.moves k (by have := h.hb; omega), h.hb, h.ne⟩
theorem LIn.below {w w' : World} {base b : Nat} {lv ov : Value} {l : List El} {O : List (Int × Int)} (h : LIn w base b lv ov l O) (k : Below w.heap.size w w') : LIn w' base b lv ov l O :=
  ⟨h.own.below k, h.que.below k, h.hb, h.ne⟩
theorem LIn.alloc {w : World} {base b : Nat} {lv ov : Value} {l : List El} {O : List (Int × Int)} (h : LIn w base b lv ov l O) (o : Obj) : LIn (w.alloc o) base b lv ov l O := h.below ((Below.refl _ _).alloc (Nat.le_refl _) _)
theorem LIn.drewN {w : World} {base b : Nat} {lv ov : Value} {l : List El} {O : List (Int × Int)} (h : LIn w base b lv ov l O) (n : Nat) : LIn (w.drewN n) base b lv ov l O := h.below (bdn (Below.refl _ _))
theorem LIn.app {w w' : World} {base b : Nat} {lv lv' ov : Value} {l : List El} {x : El} {O : List (Int × Int)} (h : LIn w base b lv ov l O) (k : AppE base lv l x w lv' w') : LIn w' base b lv' ov (l ++ [x]) O := by
  obtain ⟨k1, k2, k3, _⟩ := k
  refine ⟨k1, h.que.kept k2 h.ne, h.hb, ?_⟩
  rcases k3 with e | e
  · rw [e]; exact h.ne
  · rw [e]; intro g; injection g with g; have := h.que.lt; omega
theorem crest_sound : soundE ⟨0, wrdB 0, -1, 0, 0, 0, 0, 0⟩ = true := by
  unfold soundE
  rw [if_pos rfl, show (El.name ⟨0, wrdB 0, -1, 0, 0, 0, 0, 0⟩) = wrdB 0 from rfl, wrd_name]; rfl
theorem grown_setCell (w : World) (p : Addr) (u : Value) : w.grownBy (w.setCell p u) (some p.block) :=
  ⟨rfl, rfl, rfl, by rw [World.size_setCell]; exact Nat.le_refl _, fun k _ hk => Below.heap_setCell _ _ _ _ (fun e => hk (by rw [e]))⟩
theorem RLoc.grown {α : Type} {R : Rec α} {w w' : World} {b : Nat} {x : α} {row : Option Nat} (h : RLoc R w b x) (g : w.grownBy w' row) (hn : row ≠ some b) : RLoc R w' b x :=
  ⟨h.blk.grown g hn, fun j => (World.frozen?_of_block (a := ⟨b, j, none⟩) (g.block b h.blk.lt (fun e => hn e.symm))).trans (h.fz j)⟩
theorem LIn.grown {w w' : World} {base b : Nat} {lv ov : Value} {l : List El} {O : List (Int × Int)} {row : Option Nat} (h : LIn w base b lv ov l O) (k : w.grownBy w' row) (h1 : lv.ownBlock ≠ row) (h2 : row ≠ some b) : LIn w' base b lv ov l O :=
  ⟨h.own.kept k (Or.inr h1), h.que.kept k h2, h.hb, h.ne⟩
theorem LIn.put {w : World} {base b q : Nat} {lv ov : Value} {l : List El} {O : List (Int × Int)} (h : LIn w base b lv ov l O) (h1 : lv.ownBlock ≠ some q) (h2 : q ≠ b) (j : Nat) (u : Value) : LIn (w.setCell ⟨q, j, none⟩ u) base b lv ov l O :=
  h.grown (grown_setCell w ⟨q, j, none⟩ u) h1 (by intro e; injection e with e; exact h2 e)
theorem AppE.ne {base : Nat} {v v' : Value} {l : List El} {x : El} {W w' : World} (h : AppE base v l x W v' w') {q : Nat} (h1 : v.ownBlock ≠ some q) (hq : q < W.heap.size) : v'.ownBlock ≠ some q := by
  rcases h.2.2.1 with e | e
  · rw [e]; exact h1
  · rw [e]; intro g; injection g with g; omega
theorem QR.put {w : World} {q : Nat} {p : Int × Int} (h : RLoc QR w q p) (x y : Int) : RLoc QR ((w.setCell ⟨q, 0, none⟩ (.int .i64 x)).setCell ⟨q, 1, none⟩ (.int .i64 y)) q (x, y) :=
  (h.store (y := (x, p.2)) (j := 0) rfl (by show 0 < 2; decide)).store (y := (x, y)) (j := 1) rfl (by show 1 < 2; decide)
theorem LIn.appQ {w w' : World} {base b b' : Nat} {lv ov ov' : Value} {l : List El} {O O' : List (Int × Int)} (h : LIn w base b lv ov l O) (hQ : Que QR w' b' ov' O') (hg : w.grownBy w' (some b)) (hb : b' = b ∨ b' = w.heap.size) (hs : base ≤ w.heap.size) : LIn w' base b' lv ov' l O' := by
  refine ⟨h.own.kept hg (Or.inr h.ne), hQ, ?_, ?_⟩
  · rcases hb with e | e
    · rw [e]; exact h.hb
    · rw [e]; exact hs
  · rcases hb with e | e
    · rw [e]; exact h.ne
    · intro g; have := (h.own.block g).2; omega
def LayOk (n : Nat) (l : List El) : Prop := Lay l [] ∧ 1 ≤ l.length ∧ l.length ≤ 4 + 6 * n ∧ trks l ≤ n + 1
def LayPost (m N n : Nat) (w : World) (e : Ending) (w' : World) : Prop := ∃ v l, e = .returned v ∧ ROwn ER 39 w' w.heap.size v l ∧ LayOk n l ∧ IsMk w' m (N + 19 + 36 * n) ∧ Moves m w w'
set_option maxRecDepth 100000 in
set_option maxHeartbeats 3200000 in
theorem mlayout_any (m N n : Nat) (w : World) (h : IsMk w m N) (hN : N ≤ 10000000000) (hn : n ≤ 12) :
    Calls Tryz.prog 5 #[.pointer (some ⟨m, 0, none⟩), .int .i64 (n : Int)] w (LayPost m N n w) := by
  have hm := h.lt
  have HM := Lib.hid h
  clear h
  go_enter Tryz.func5, Tryz.ntmps5
  go_wp2_with fail
  refine (word_any 0 _ (by decide)).mono ?_
  rintro e w1 ⟨rfl, k2⟩
  have K := Lib.hid (HM.out.stays' k2)
  have V := Lib.hid (Moves.of_below (m := m) k2)
  obtain ⟨g, hg⟩ : ∃ g, g = w1.heap.size := ⟨_, rfl⟩
  have hwg : w.heap.size ≤ g := by have := V.out.size; omega
  have I := Lib.hid (show LIn ((w1.alloc (objE ⟨0, wrdB 0, -1, 0, 0, 0, 0, 0⟩)).alloc (.cells #[.int .i64 0, .int .i64 0] 40)) w.heap.size (g + 1) (.slice (some ⟨g, 0, none⟩) 1 1) (.slice (some ⟨g + 1, 0, none⟩) 1 1) [⟨0, wrdB 0, -1, 0, 0, 0, 0, 0⟩] [(0, 0)] from
    ⟨(ROwn.lit (R := ER) (T := 39) (w := w1) [⟨0, wrdB 0, -1, 0, 0, 0, 0, 0⟩] (by decide) (by omega) g hg).alloc _, Que.new (R := QR) (w := w1.alloc (objE ⟨0, wrdB 0, -1, 0, 0, 0, 0, 0⟩)) [((0 : Int), (0 : Int))] (by decide) (g + 1) (by rw [World.size_alloc, hg]), by omega, by simp [Value.ownBlock]⟩)
  have V := Lib.hid ((V.out.alloc (objE ⟨0, wrdB 0, -1, 0, 0, 0, 0, 0⟩)).alloc (.cells #[.int .i64 0, .int .i64 0] 40))
  have K := Lib.hid ((K.out.alloc (objE ⟨0, wrdB 0, -1, 0, 0, 0, 0, 0⟩)).alloc (.cells #[.int .i64 0, .int .i64 0] 40))
  clear k2 HM
  go_wp2_with fail
  refine (next_any m N _ _ K.out (by omega) (by omega) (by omega)).mono ?_
  rw [← hg]
  rintro e w2 ⟨v, rfl, v1, v2, k1, k2⟩
  obtain ⟨s0, rfl⟩ := Int.eq_ofNat_of_zero_le v1
  have K := Lib.hid k1
  have V := Lib.hid (V.out.trans k2)
  have I := Lib.hid (I.out.moves k2 hm)
  have hs0 : s0 ≤ n := by omega
  clear k1 k2 v1 v2 hg
  go_wp2_with fail
  go_loopw [5, 6, 7] (fun lv ov sv wr => ∃ (l : List El) (O : List (Int × Int)) (b s M : Nat), sv = .int .i64 (s : Int) ∧ Hid (LIn wr w.heap.size b lv ov l O) ∧ Hid (Lay l O ∧ SideE O) ∧ Hid (IsMk wr m M) ∧ Hid (Moves m w wr) ∧ l.length + 3 * (2 * s + O.length) ≤ 4 + 6 * n ∧ M + 18 * (2 * s + O.length) ≤ N + 19 + 36 * n ∧ trks l + s + O.length ≤ n + 1 ∧ 1 ≤ l.length) (fun _ ov sv _ => 2 * (intOf sv).toNat + lenV ov)
  case atStart => exact ⟨_, _, g + 1, s0, N + 1, rfl, I, Lib.hid ⟨Lay.first crest_sound rfl rfl, by intro p hp; simp at hp; subst hp; decide⟩, K, V, by simp; omega, by simp; omega, by show 0 + s0 + 1 ≤ n + 1; omega, by simp⟩
  case round =>
    clear I K V hs0 hwg
    obtain ⟨l, O, b, s, M, rfl, I, HL, K, V, b1, b2, b3, b4⟩ := hrel
    obtain ⟨ao, cap, rfl, hrow, hc1, hc2⟩ := I.out.que.row
    have HR := Lib.hid hrow
    clear hrow
    cases O with
    | nil =>
      clear HR
      rw [List.length_nil]
      go_wp2_with fail
      go_ret
      exact ⟨u5, l, rfl, I.out.own, ⟨HL.out.1, b4, by simp at b1; omega, by simp at b3; omega⟩, K.out.more (by omega), V.out⟩
    | cons p O =>
      obtain ⟨ad, rfl, C⟩ := HR.out.at_ (k := 0) (x := p) rfl
      have c0 : wr.cell? ad = some (.int .i64 p.1) := by simpa [Addr.add] using C.first (R := QR) rfl
      have c1 : wr.cell? ⟨ad.block, ad.off + 1, none⟩ = some (.int .i64 p.2) := by simpa [Addr.add] using C.next (R := QR) 1 (by decide) rfl
      clear C HR
      rw [List.length_cons] at hc1 b1 b2 b3
      have hlt : (0 : Int) < ((O.length + 1 : Nat) : Int) := by omega
      rw [List.length_cons] at I ⊢
      have htl := Que.tail (R := QR) I.out.que
      have hsl := fun W => slice_que (some ad) (O.length + 1) cap W (by omega)
      rw [Nat.add_sub_cancel] at hsl
      obtain ⟨ao', hao⟩ : ∃ a, a = (if cap = 1 then some ad else (some ad).map (·.add (1 * 2))) := ⟨_, rfl⟩
      rw [← hao] at hsl
      replace I := Lib.hid (show LIn wr w.heap.size b u5 (.slice ao' O.length (cap - 1)) l O from ⟨I.out.own, by rw [hao]; exact htl.2, I.out.hb, I.out.ne⟩)
      clear htl hao
      go_wp2_with fail
      obtain ⟨q, hq⟩ : ∃ q, q = wr.heap.size := ⟨_, rfl⟩
      have P := Lib.hid (show RLoc QR (wr.alloc (.cells #[.int .i64 p.1, .int .i64 p.2] 40)) q p from RLoc.new (R := QR) wr p _ q hq)
      have hqm : m < q := by have := V.out.size; omega
      have hwq : w.heap.size ≤ q := by have := V.out.size; omega
      have hbq : q ≠ b := by have := I.out.que.lt; omega
      have hnq : u5.ownBlock ≠ some q := fun e => by have := (I.out.own.block e).2; omega
      replace I := Lib.hid (I.out.alloc (.cells #[.int .i64 p.1, .int .i64 p.2] 40))
      replace V := Lib.hid (V.out.alloc (.cells #[.int .i64 p.1, .int .i64 p.2] 40))
      replace K := Lib.hid (K.out.alloc (.cells #[.int .i64 p.1, .int .i64 p.2] 40))
      refine (next_any m M _ _ K.out (by omega) (by omega) (by omega)).mono ?_
      rintro e w3 ⟨v, rfl, v1, v2, k1, k2⟩
      obtain ⟨r0, rfl⟩ := Int.eq_ofNat_of_zero_le v1
      rw [← hq]
      replace K := Lib.hid k1
      replace V := Lib.hid (V.out.trans k2)
      replace I := Lib.hid (I.out.moves k2 hm)
      replace P := Lib.hid (P.out.moves k2 (by omega))
      have hr0 : r0 ≤ 2 := by omega
      have HNQ := Lib.hid hnq
      clear k1 k2 v1 v2 hq c0 c1 hsl hlt hnq
      generalize wr = wo at *
      generalize u5 = vo at *
      go_wp2_with fail
      go_loopw [5, 9] (fun lv rv wi => ∃ (l1 : List El) (p : Int × Int) (r M1 : Nat), rv = .int .i64 (r : Int) ∧ Hid (LIn wi w.heap.size b lv (.slice ao' O.length (cap - 1)) l1 O) ∧ Hid (lv.ownBlock ≠ some q) ∧ Hid (RLoc QR wi q p) ∧ Hid (Lay l1 (p :: O) ∧ SideE (p :: O)) ∧ Hid (IsMk wi m M1) ∧ Hid (Moves m w wi) ∧ l1.length + r ≤ l.length + 2 ∧ M1 + 6 * r ≤ M + 13 ∧ trks l1 = trks l ∧ 1 ≤ l1.length) (fun _ rv _ => (intOf rv).toNat)
      case atStart => exact ⟨l, p, r0, M + 1, rfl, I, HNQ, P, HL, K, V, by omega, by omega, rfl, b4⟩
      case round =>
        clear I P HL K V HNQ hr0
        obtain ⟨l1, p1, r, M1, rfl, I, HNQ, P, HL, K, V, d1, d2, d3, d4⟩ := hrel
        by_cases hr : 0 < r
        · have hr' : (0 : Int) < (r : Int) := by omega
          go_wp2_with fail
          refine (pick_any m M1 (fun v => 1 ≤ v ∧ v ≤ 2) _ 3 3 _ (K.out.alloc _) (by omega) (by omega) (by omega) (by have := K.out.lt; omega) (by simp) (by exact new_pick _ _ _ [1, 1, 2] (by decide) _ rfl)).mono ?_
          rintro e w4 ⟨kk, rfl, ⟨kk1, kk2⟩, k1, k2⟩
          replace V := Lib.hid ((V.out.alloc (.cells #[.int .i64 1, .int .i64 1, .int .i64 2] 3)).trans k2)
          replace I := Lib.hid ((I.out.alloc (.cells #[.int .i64 1, .int .i64 1, .int .i64 2] 3)).moves k2 hm)
          replace P := Lib.hid ((P.out.alloc (.cells #[.int .i64 1, .int .i64 1, .int .i64 2] 3)).moves k2 (by omega))
          replace K := Lib.hid k1
          clear k1 k2
          go_upto_region 11 with fail
          obtain ⟨lA, lc, rfl, hrow, hl1, hl2, _, _⟩ := I.out.own.full
          obtain ⟨c0, c1⟩ : w4.cell? ⟨q, 0, none⟩ = some (.int .i64 p1.1) ∧ w4.cell? ⟨q, 1, none⟩ = some (.int .i64 p1.2) := ⟨P.out.blk.cs 0 _ rfl, P.out.blk.cs 1 _ rfl⟩
          clear hrow
          have hp1 := HL.out.2 p1 (List.mem_cons_self ..)
          have hl3 : l1.length ≤ 1000 := by omega
          go_wp2_with fail
          refine (melem_any m (M1 + 1) kk l1.length p1.1 p1.2 _ K.out (by omega) (by omega) (by omega) hp1).mono ?_
          rintro e w5 ⟨x, rfl, hx, k1, k2⟩
          replace V := Lib.hid (V.out.trans k2)
          replace I := Lib.hid (I.out.moves k2 hm)
          replace P := Lib.hid (P.out.moves k2 (by omega))
          replace K := Lib.hid k1
          have HX := Lib.hid hx
          clear k1 k2 hx c0 c1
          go_wp2_with (first | (at_builtin; refine wpList_appE _ rfl (.tmp 37) (.tmp 47) rfl w.heap.size _ l1 rfl (I.out.own.alloc _) x w5 rfl _ rfl 1 rfl (by omega) (by have := V.out.size; rw [World.size_alloc]; omega) ?_; rintro v6 w6 hap; have I6 := Lib.hid ((I.out.alloc (objE x)).app hap); have P6 := Lib.hid ((P.out.alloc (objE x)).grown hap.2.1 HNQ.out); have V6 := Lib.hid ((V.out.alloc (objE x)).grown hap.2.1 (fun j hj => (I.out.own.block hj).1)); have K6 := Lib.hid ((K.out.alloc (objE x)).grown hap.2.1 (fun j hj => (by have := (I.out.own.block hj).1; omega))); have HNQ6 := Lib.hid (hap.ne HNQ.out (by have := P.out.blk.lt; rw [World.size_alloc]; omega)); obtain ⟨_, _, _, g6, c6, rfl⟩ := hap; obtain ⟨d0, d1⟩ : w6.cell? ⟨q, 0, none⟩ = some (.int .i64 p1.1) ∧ w6.cell? ⟨q, 1, none⟩ = some (.int .i64 p1.2) := ⟨P6.out.blk.cs 0 _ rfl, P6.out.blk.cs 1 _ rfl⟩; have fz := P6.out.fz; clear I K V P))
          have P7 := Lib.hid (QR.put P6.out (l1.length : Int) 0)
          have I7 := Lib.hid ((I6.out.put HNQ6.out hbq 0 (.int .i64 (l1.length : Int))).put HNQ6.out hbq 1 (.int .i64 0))
          have V7 := Lib.hid ((V6.out.setCell (p := ⟨q, 0, none⟩) (Or.inr hwq) (.int .i64 (l1.length : Int))).setCell (p := ⟨q, 1, none⟩) (Or.inr hwq) (.int .i64 0))
          have K7 := Lib.hid ((K6.out.setCell (p := ⟨q, 0, none⟩) hqm (.int .i64 (l1.length : Int))).setCell (p := ⟨q, 1, none⟩) hqm (.int .i64 0))
          have L7 := Lib.hid (show Lay (l1 ++ [x]) (((l1.length : Int), 0) :: O) ∧ SideE (((l1.length : Int), 0) :: O) from
            ⟨HL.out.1.put HX.out.2.2.2.2 (by rw [HX.out.1]; omega) HX.out.2.2.1 HX.out.2.2.2.1 HX.out.2.1 (by omega) _ (by rw [HX.out.1]; unfold opnE; rw [if_neg (by omega), if_neg (by omega)]; exact (List.perm_append_singleton _ _).symm), fun p hp => by
              rcases List.mem_cons.1 hp with rfl | hp
              · exact ⟨Int.le_refl _, by show (0 : Int) ≤ 2; decide⟩
              · exact HL.out.2 p (List.mem_cons_of_mem _ hp)⟩)
          have T7 : trks (l1 ++ [x]) = trks l := by rw [trks_snoc, if_neg (by rw [HX.out.1]; omega)]; exact d3
          clear d0 d1 fz P6 I6 V6 K6 HL HX
          go_roundw
          case rel =>
            exact ⟨l1 ++ [x], _, r - 1, M1 + 6, by congr 1; omega, I7, HNQ6, P7, L7, K7, V7, by rw [List.length_append]; simp; omega, by omega, T7, by rw [List.length_append]; omega⟩
          case measure => simp [intOf]; omega
        · have hr' : ¬ (0 : Int) < (r : Int) := by omega
          obtain ⟨lA, lc, rfl, hrow, hl1, hl2, _, _⟩ := I.out.own.full
          obtain ⟨c0, c1⟩ : wr.cell? ⟨q, 0, none⟩ = some (.int .i64 p1.1) ∧ wr.cell? ⟨q, 1, none⟩ = some (.int .i64 p1.2) := ⟨P.out.blk.cs 0 _ rfl, P.out.blk.cs 1 _ rfl⟩
          clear hrow
          have hp1 := HL.out.2 p1 (List.mem_cons_self ..)
          have hl3 : l1.length ≤ 1000 := by omega
          by_cases hs : 0 < s
          · have hs' : (0 : Int) < (s : Int) := by omega
            go_wp2_with fail
            refine (melem_any m M1 3 l1.length p1.1 p1.2 _ K.out (by omega) (by omega) (by omega) hp1).mono ?_
            rintro e w5 ⟨x, rfl, hx, k1, k2⟩
            replace V := Lib.hid (V.out.trans k2)
            replace I := Lib.hid (I.out.moves k2 hm)
            replace K := Lib.hid k1
            have HX := Lib.hid hx
            clear k1 k2 hx c0 c1 P HNQ
            have T7 : trks (l1 ++ [x]) = trks l + (if (3 : Int) = 4 then 1 else 0) := by rw [trks_snoc, HX.out.1, d3]
            obtain ⟨i0, hi, hz0, hz1, hz2⟩ := info_parts infoQ
            have L7 := Lib.hid (show Lay (l1 ++ [x]) (O ++ [((l1.length : Int), 1), ((l1.length : Int), 2)]) ∧ SideE (O ++ [((l1.length : Int), 1), ((l1.length : Int), 2)]) from
              ⟨HL.out.1.put HX.out.2.2.2.2 (by rw [HX.out.1]; omega) HX.out.2.2.1 HX.out.2.2.2.1 HX.out.2.1 (by omega) _ (by rw [HX.out.1]; exact List.Perm.refl _), fun p hp => by
                rcases List.mem_append.1 hp with hp | hp
                · exact HL.out.2 p (List.mem_cons_of_mem _ hp)
                · simp at hp
                  rcases hp with rfl | rfl
                  · exact ⟨by show (0 : Int) ≤ 1; decide, by show (1 : Int) ≤ 2; decide⟩
                  · exact ⟨by show (0 : Int) ≤ 2; decide, by show (2 : Int) ≤ 2; decide⟩⟩)
            clear HL HX
            go_wp2_with (first | (at_builtin; refine wpList_appE _ rfl (.tmp 57) (.tmp 66) rfl w.heap.size _ l1 rfl (I.out.own.alloc _) x w5 rfl _ rfl 1 rfl (by omega) (by have := V.out.size; rw [World.size_alloc]; omega) ?_; rintro v6 w6 hap; have I6 := Lib.hid ((I.out.alloc (objE x)).app hap); have V6 := Lib.hid ((V.out.alloc (objE x)).grown hap.2.1 (fun j hj => (I.out.own.block hj).1)); have K6 := Lib.hid ((K.out.alloc (objE x)).grown hap.2.1 (fun j hj => (by have := (I.out.own.block hj).1; omega))); obtain ⟨_, _, _, g6, c6, rfl⟩ := hap; clear I K V) | (at_builtin; refine wpList_app_que (R := QR) rfl (.tmp 68) (.tmp 77) 41 rfl 40 i0 (.agg #[.int .i64 0, .int .i64 0]) 16 Tryz.underlying41 hi hz0 hz1 hz2 rfl rfl (I6.out.que.alloc _) ⟨w6.heap.size, 0, none⟩ [((l1.length : Int), (1 : Int)), ((l1.length : Int), (2 : Int))] 2 2 rfl rfl (newR (R := QR) (W := w6)) (by decide) (by simp; omega) (by decide) ?_; rintro v8 w8 b8 Q8 hg8 hb8; obtain ⟨ao8, cap8, rfl, _, _, _⟩ := Q8.row; have I8 := Lib.hid ((I6.out.alloc (.cells (QR.flat [((l1.length : Int), (1 : Int)), ((l1.length : Int), (2 : Int))]).toArray 40)).appQ Q8 hg8 hb8 (by have := V6.out.size; rw [World.size_alloc]; omega)); have V8 := Lib.hid ((V6.out.alloc (.cells (QR.flat [((l1.length : Int), (1 : Int)), ((l1.length : Int), (2 : Int))]).toArray 40)).grown hg8 (fun j hj => (by injection hj with hj; have := I6.out.hb; omega))); have K8 := Lib.hid ((K6.out.alloc (.cells (QR.flat [((l1.length : Int), (1 : Int)), ((l1.length : Int), (2 : Int))]).toArray 40)).grown hg8 (fun j hj => (by injection hj with hj; have := I6.out.hb; omega))); clear Q8 hg8 hb8 I6 V6 K6))
            go_roundw
            case rel =>
              exact ⟨l1 ++ [x], O ++ [((l1.length : Int), 1), ((l1.length : Int), 2)], b8, s - 1, M1 + 5, by congr 1; omega, (by have h := I8; rw [List.length_append] at h; exact h), L7, K8, V8, by rw [List.length_append, List.length_append]; simp; omega, by rw [List.length_append]; simp; omega, by rw [T7, List.length_append]; simp; omega, by rw [List.length_append]; omega⟩
            case measure => simp [intOf, lenV]; omega
          · have hs' : ¬ (0 : Int) < (s : Int) := by omega
            go_wp2_with fail
            refine (melem_any m M1 4 l1.length p1.1 p1.2 _ K.out (by omega) (by omega) (by omega) hp1).mono ?_
            rintro e w5 ⟨x, rfl, hx, k1, k2⟩
            replace V := Lib.hid (V.out.trans k2)
            replace I := Lib.hid (I.out.moves k2 hm)
            replace K := Lib.hid k1
            have HX := Lib.hid hx
            clear k1 k2 hx c0 c1 P HNQ
            have T7 : trks (l1 ++ [x]) = trks l + (if (4 : Int) = 4 then 1 else 0) := by rw [trks_snoc, HX.out.1, d3]
            have L7 := Lib.hid (show Lay (l1 ++ [x]) O ∧ SideE O from
              ⟨HL.out.1.put HX.out.2.2.2.2 (by rw [HX.out.1]; omega) HX.out.2.2.1 HX.out.2.2.2.1 HX.out.2.1 (by omega) _ (by rw [HX.out.1]; show O.Perm (O ++ []); rw [List.append_nil]), fun p hp => HL.out.2 p (List.mem_cons_of_mem _ hp)⟩)
            clear HL HX
            go_wp2_with (at_builtin; refine wpList_appE _ rfl (.tmp 79) (.tmp 88) rfl w.heap.size _ l1 rfl (I.out.own.alloc _) x w5 rfl _ rfl 1 rfl (by omega) (by have := V.out.size; rw [World.size_alloc]; omega) ?_; rintro v6 w6 hap; have I6 := Lib.hid ((I.out.alloc (objE x)).app hap); have V6 := Lib.hid ((V.out.alloc (objE x)).grown hap.2.1 (fun j hj => (I.out.own.block hj).1)); have K6 := Lib.hid ((K.out.alloc (objE x)).grown hap.2.1 (fun j hj => (by have := (I.out.own.block hj).1; omega))); obtain ⟨_, _, _, g6, c6, rfl⟩ := hap; clear I K V)
            go_roundw
            case rel =>
              exact ⟨l1 ++ [x], O, b, s, M1 + 5, rfl, I6, L7, K6, V6, by rw [List.length_append]; simp; omega, by omega, by rw [T7]; simp; omega, by rw [List.length_append]; omega⟩
            case measure => simp [intOf, lenV]
end Go.Proofs.YtdoifaifhikkjaaGreatDoor
