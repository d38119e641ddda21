/-
  Stage 13: the iterator over the items in the order of their blocks.
-/
import Derived.Test.YtkopbnppjhdbgaaYRound
import Derived.Test.YtkopbnppjhdbgaaYPlain
set_option linter.unusedSimpArgs false
set_option linter.unusedVariables false
namespace Go.Proofs.Ytkopbnppjhdbgaa
open Go.RowKit Go.Shelf
attribute [local go_sem] Oper.semAt_some

/-- An index of an item. -/
abbrev Ix (l : List It) := { x : Nat // x < l.length }
/-- Those of block b, up to item k; those of the blocks below n. -/
def ordK (l : List It) (b : Nat) : Nat → List (Ix l)
  | 0 => []
  | k + 1 => if h : k < l.length ∧ blk l k = (b : Int) then ordK l b k ++ [⟨k, h.1⟩] else ordK l b k
def ordN (l : List It) : Nat → List (Ix l)
  | 0 => []
  | n + 1 => ordN l n ++ ordK l n l.length
theorem ordK_yes {l : List It} {b k : Nat} (h : k < l.length) (e : blk l k = (b : Int)) : ordK l b (k + 1) = ordK l b k ++ [⟨k, h⟩] := by
  show (if h : k < l.length ∧ blk l k = (b : Int) then ordK l b k ++ [⟨k, h.1⟩] else ordK l b k) = _
  rw [dif_pos ⟨h, e⟩]
theorem ordK_no {l : List It} {b k : Nat} (e : ¬ blk l k = (b : Int)) : ordK l b (k + 1) = ordK l b k := by
  show (if h : k < l.length ∧ blk l k = (b : Int) then ordK l b k ++ [⟨k, h.1⟩] else ordK l b k) = _
  rw [dif_neg (fun h => e h.2)]
theorem ordK_len (l : List It) (b k : Nat) : (ordK l b k).length ≤ k := by
  induction k with
  | zero => exact Nat.le_refl _
  | succ k ih =>
    unfold ordK
    split
    · rw [List.length_append, List.length_singleton]; omega
    · omega
theorem ordN_len (l : List It) (n : Nat) : (ordN l n).length ≤ n * l.length := by
  induction n with
  | zero => simp [ordN]
  | succ n ih =>
    unfold ordN
    have := ordK_len l n l.length
    rw [List.length_append, Nat.succ_mul]; omega
theorem ordK_mem {l : List It} {b k : Nat} {x : Ix l} : x ∈ ordK l b k ↔ x.1 < k ∧ blk l x.1 = (b : Int) := by
  induction k with
  | zero => simp [ordK]
  | succ k ih =>
    by_cases h : k < l.length ∧ blk l k = (b : Int)
    · rw [ordK_yes h.1 h.2, List.mem_append, List.mem_singleton, ih]
      constructor
      · rintro (⟨h1, h2⟩ | rfl)
        · exact ⟨by omega, h2⟩
        · exact ⟨Nat.lt_succ_self _, h.2⟩
      · rintro ⟨h1, h2⟩
        rcases Nat.lt_or_ge x.1 k with g | g
        · exact Or.inl ⟨g, h2⟩
        · exact Or.inr (Subtype.ext (by show x.1 = k; omega))
    · have : ordK l b (k + 1) = ordK l b k := by
        show (if h : k < l.length ∧ blk l k = (b : Int) then ordK l b k ++ [⟨k, h.1⟩] else ordK l b k) = _
        rw [dif_neg h]
      rw [this, ih]
      constructor
      · rintro ⟨h1, h2⟩; exact ⟨by omega, h2⟩
      · rintro ⟨h1, h2⟩
        refine ⟨?_, h2⟩
        rcases Nat.lt_or_ge x.1 k with g | g
        · exact g
        · have e : x.1 = k := by omega
          exact absurd ⟨by have := x.2; omega, by rw [← e]; exact h2⟩ h
theorem ordN_mem {l : List It} {n : Nat} {x : Ix l} : x ∈ ordN l n ↔ ∃ b, b < n ∧ blk l x.1 = ((b : Nat) : Int) := by
  induction n with
  | zero => simp [ordN]
  | succ n ih =>
    unfold ordN
    rw [List.mem_append, ih, ordK_mem]
    constructor
    · rintro (⟨b, h1, h2⟩ | ⟨h1, h2⟩)
      · exact ⟨b, by omega, h2⟩
      · exact ⟨n, Nat.lt_succ_self _, h2⟩
    · rintro ⟨b, h1, h2⟩
      rcases Nat.lt_or_ge b n with g | g
      · exact Or.inl ⟨b, g, h2⟩
      · have e : b = n := by omega
        subst e
        exact Or.inr ⟨x.2, h2⟩
theorem ordK_le (l : List It) (b : Nat) {k m : Nat} (h : k ≤ m) : ordK l b k <+: ordK l b m := by
  induction m with
  | zero => obtain rfl : k = 0 := by omega
            exact List.prefix_refl _
  | succ m ih =>
    by_cases e : k = m + 1
    · subst e; exact List.prefix_refl _
    · have := ih (by omega)
      rw [show ordK l b (m + 1) = (if h : m < l.length ∧ blk l m = (b : Int) then ordK l b m ++ [⟨m, h.1⟩] else ordK l b m) from rfl]
      split
      · exact this.trans (List.prefix_append _ _)
      · exact this
theorem ordN_le (l : List It) {n m : Nat} (h : n ≤ m) : ordN l n <+: ordN l m := by
  induction m with
  | zero => obtain rfl : n = 0 := by omega
            exact List.prefix_refl _
  | succ m ih =>
    by_cases e : n = m + 1
    · subst e; exact List.prefix_refl _
    · exact (ih (by omega)).trans (List.prefix_append _ _)
/-- Up to item k of block b: a beginning of the order. -/
theorem ord_pre (l : List It) {b k n : Nat} (hb : b < n) (hk : k ≤ l.length) : ordN l b ++ ordK l b k <+: ordN l n := by
  refine List.IsPrefix.trans ?_ (ordN_le l (show b + 1 ≤ n from hb))
  show _ <+: ordN l b ++ ordK l b l.length
  exact (List.prefix_append_right_inj _).2 (ordK_le l b hk)
abbrev encI {l : List It} (x : Ix l) : Array Value := #[.int .i64 (x.1 : Int)]
/-- What a round keeps: what lay below n₀, and the box of the list. -/
structure KpI (n₀ Ba : Nat) (W W' : World) : Prop where
  bel : Below n₀ W W'
  a : W'.heap[Ba]? = W.heap[Ba]?
  size : W.heap.size ≤ W'.heap.size
theorem KpI.t {n₀ Ba : Nat} {X Y Z : World} (h : KpI n₀ Ba X Y) (k : KpI n₀ Ba Y Z) : KpI n₀ Ba X Z := ⟨h.bel.trans k.bel, k.a.trans h.a, Nat.le_trans h.size k.size⟩
theorem KpI.of_below {n₀ Ba : Nat} {W W' : World} (h : Below W.heap.size W W') (h0 : n₀ ≤ W.heap.size) (ha : Ba < W.heap.size) : KpI n₀ Ba W W' := ⟨h.mono h0, h.block _ ha, h.size⟩
theorem KpI.refl {n₀ Ba : Nat} (W : World) : KpI n₀ Ba W W := ⟨Below.refl _ _, rfl, Nat.le_refl _⟩
theorem KpI.set {n₀ Ba : Nat} {X W : World} (h : KpI n₀ Ba X W) {p : Addr} (h0 : n₀ ≤ p.block) (ha : p.block ≠ Ba) (u : Value) : KpI n₀ Ba X (W.setCell p u) :=
  ⟨h.bel.setCell h0 u, (Below.heap_setCell _ _ _ _ (fun e => ha e.symm)).trans h.a, by rw [World.size_setCell]; exact h.size⟩
theorem KpI.put {n₀ Ba : Nat} {w : World} (hl : n₀ ≤ w.heap.size) (ha : Ba < w.heap.size) (W : World) (l : Nat) (o o' : Obj) (h1 : w.heap.size ≤ l) (h2 : W.heap[l]? = some o) (h3 : o.isCells = false) (h4 : o.isWalk = false) : KpI n₀ Ba W (W.putObj l o') := by
  have g := grownBy_putObj' W l o'
  have hlt := (Array.getElem?_eq_some_iff.1 h2).1
  exact ⟨(Below.refl n₀ W).grown g (by omega) (fun k e => by cases e; omega), g.block _ (by omega) (fun e => by cases e; omega), g.size⟩
theorem cell_heap {w w' : World} {b o : Nat} (h : w'.heap[b]? = w.heap[b]?) : w'.cell? ⟨b, o, none⟩ = w.cell? ⟨b, o, none⟩ := World.cell?_of_block (w := w) h
theorem abides_below {β : Type} {B : Nat} {J : β → World → Prop} (h : AbidesFrom B J) {s : β} {W W' : World} (hs : J s W) (b : Below W.heap.size W W') : J s W' :=
  h s W W' none hs ⟨b.os, b.tape, b.output, b.size, fun k hk _ => b.block k hk⟩ (fun r e => by cases e)
set_option maxRecDepth 100000 in
set_option maxHeartbeats 3200000 in
theorem bb_in (n : Nat) (hn : 1 ≤ n) (l : List It) (A : Option Addr) (c yl Ba n₀ : Nat) (J Jx : List (Ix l) → World → Prop) (hl : l.length ≤ 96)
    (hY : ∀ pre z W, J pre W → pre.length < 4000 → YieldAt Fence.wide (n - 1) Try.prog yl (encI z) W fun e W' =>
      (e = .returned (.bool true) ∧ J (pre ++ [z]) W' ∧ KpI n₀ Ba W W') ∨ (e = .returned (.bool false) ∧ Jx (pre ++ [z]) W'))
    (W : World) (hBa : W.cell? ⟨Ba, 0, none⟩ = some (.slice A l.length c)) (hn0 : n₀ ≤ W.heap.size)
    (hR : Row .i64 W n₀ A (flatI l)) (hJ : AbidesFrom W.heap.size J) (hj0 : J [] W) :
    CallsIn Fence.wide n Try.prog 71 #[.func (.yield yl) #[] #[], .pointer (some ⟨Ba, 0, none⟩)] W fun e W' => (∃ v, e = .returned v) ∧
      ((∃ ys, ys = ordN l 32 ∧ J ys W') ∨ (∃ pre, pre <+: ordN l 32 ∧ Jx pre W')) := by
  obtain ⟨L, hL⟩ : ∃ n, n = l.length := ⟨_, rfl⟩
  have HL := Lib.hid hL
  have HY := Lib.hid hY
  have HR := Lib.hid hR
  have HJ := Lib.hid hJ
  have HB := Lib.hid hBa
  have ha : Ba < W.heap.size := lt_of_cell hBa
  rw [← hL] at hBa hl
  clear hL hY hR hJ
  refine callsIn_of_wp Try.func71 rfl trivial ?_ rfl
  simp only [Try.ntmps71, List.size_toArray, List.length_cons, List.length_nil, Nat.reduceAdd, Nat.reduceSub, Array.replicate_succ, Array.replicate_zero, List.push_toArray, List.append_toArray, List.nil_append, List.cons_append]
  gi_wp2
  gi_loopw [6] (fun i wr => ∃ b : Nat, b ≤ 32 ∧ i = .int .i64 (b : Int) ∧ Hid (J (ordN l b) wr) ∧ Hid (KpI n₀ Ba W wr)) (fun i _ => 32 - (intOf i).toNat)
  case atStart => exact ⟨0, by omega, rfl, Lib.hid hj0, Lib.hid (KpI.refl _)⟩
  case round =>
    clear hj0
    obtain ⟨b, hb, rfl, hj, kp⟩ := hrel
    by_cases hlt : b < 32
    · have cA : wr.cell? ⟨Ba, 0, none⟩ = some (.slice A L c) := by rw [HL.out]; exact (cell_heap kp.out.a).trans HB.out
      have hd : decide ((b : Int) < 32) = true := decide_eq_true (by omega)
      gi_wp2
      clear cA
      have hj0 := Lib.hid (show J (ordN l b ++ ordK l b 0) wr by
        rw [show ordK l b 0 = [] from rfl, List.append_nil]; exact hj.out)
      clear hj
      gi_loopw [11] (fun i wi => ∃ k : Nat, k ≤ L ∧ i = .int .i64 (k : Int) ∧ Hid (J (ordN l b ++ ordK l b k) wi) ∧ Hid (KpI n₀ Ba W wi)) (fun i _ => L - (intOf i).toNat)
      case atStart => exact ⟨0, by omega, rfl, hj0, kp⟩
      case round =>
        clear hj0 kp
        obtain ⟨k, hk, rfl, hj, kp⟩ := hrel
        by_cases hlk : k < L
        · have sW : W.heap.size ≤ wr.heap.size := kp.out.size
          have hIR : IRow wr A l := ⟨(HR.out.under kp.out.bel).more (Nat.le_trans hn0 sW), by rw [← HL.out]; unfold maxLen; omega⟩
          obtain ⟨ad, rfl, C⟩ := hIR.at_ k (by rw [← HL.out]; exact hlk)
          have hbk : blk l k = (l.getD k it0).2.1 := rfl
          obtain ⟨⟨t, bl, r, g⟩, hp⟩ : ∃ p, p = l.getD k it0 := ⟨_, rfl⟩
          rw [← hp] at C hbk
          obtain ⟨c0, c1, c2, c3⟩ := C.spelt
          have b1 : Below wr.heap.size wr (wr.alloc (.cells #[.int .i64 t, .int .i64 bl, .int .i64 r, .int .i64 g] 29)) := (Below.refl _ _).alloc (Nat.le_refl _) _
          have HJ1 := Lib.hid (abides_below HJ.out hj.out b1)
          have HK1 := Lib.hid (kp.out.t (KpI.of_below b1 (Nat.le_trans hn0 sW) (Nat.lt_of_lt_of_le ha sW)))
          have q1 := (IPl.new (w := wr) (p := (t, bl, r, g)) (T := 29) wr.heap.size rfl).c1
          have HBK := Lib.hid hbk
          clear hIR C hp hj kp b1 sW hbk
          by_cases e : bl = (b : Int)
          · have HE := Lib.hid (show blk l k = (b : Int) from HBK.out.trans e)
            have hkl : k < l.length := by rw [← HL.out]; exact hlk
            have hlen : (ordN l b ++ ordK l b k).length < 4000 := by
              have h1 := ordN_len l b
              have h2 := ordK_len l b k
              have h3 : b * l.length ≤ 32 * l.length := Nat.mul_le_mul_right _ (by omega)
              have h4 := HL.out
              rw [List.length_append]; omega
            have hY' := HY.out (ordN l b ++ ordK l b k) ⟨k, hkl⟩ _ HJ1.out hlen
            dsimp only [YieldAt] at hY'
            have HPS := Lib.hid (show ordN l b ++ ordK l b k ++ [⟨k, hkl⟩] = ordN l b ++ ordK l b (k + 1) by rw [ordK_yes hkl HE.out, List.append_assoc])
            obtain ⟨fn, tmps, assign, body, hy, hR⟩ := hY'
            have hbe : (bl == (b : Int)) = true := by rw [e]; simp
            have HRR := Lib.hid hR
            clear hR hlen HBK e
            gi_wp2
            refine HRR.out.mono ?_
            rintro e W3 (⟨rfl, hJ3, hk3⟩ | ⟨rfl, hJx3⟩)
            · have HJ3 := Lib.hid (show J (ordN l b ++ ordK l b (k + 1)) W3 by rw [← HPS.out]; exact hJ3)
              have HK3 := Lib.hid (HK1.out.t hk3)
              clear hJ3 hk3 HJ1 HK1 HPS HRR hy hbe c0 c1 c2 c3 q1
              gi_wp2
              go_roundw
              case rel => exact ⟨k + 1, by omega, by simp, HJ3, HK3⟩
              case measure => simp [intOf]; omega
            · have HJx := Lib.hid (show ∃ pre, pre <+: ordN l 32 ∧ Jx pre W3 from ⟨_, by rw [HPS.out]; exact ord_pre l hlt (by omega), hJx3⟩)
              clear hJx3 HJ1 HK1 HPS HRR hy hbe c0 c1 c2 c3 q1
              gi_wp2
              refine bodyPost_ret (results_none rfl _ _ _) rfl ?_
              exact ⟨⟨_, rfl⟩, .inr HJx.out⟩
          · have HPS := Lib.hid (show ordK l b (k + 1) = ordK l b k from ordK_no (by rw [HBK.out]; exact e))
            have hbe : (bl == (b : Int)) = false := by simpa using e
            clear HBK e
            gi_wp2
            refine ⟨fun _ h => (by cases h), ?_⟩
            gi_wp2
            go_roundw
            case rel => exact ⟨k + 1, by omega, by simp, Lib.hid (by rw [HPS.out]; exact HJ1.out), HK1⟩
            case measure => simp [intOf]; omega
        · obtain rfl : k = L := by omega
          have HJ2 := Lib.hid (show J (ordN l (b + 1)) wr by
            rw [show ordN l (b + 1) = ordN l b ++ ordK l b l.length from rfl, ← HL.out]; exact hj.out)
          clear hj hlk hk
          gi_wp2
          go_roundw
          case rel => exact ⟨b + 1, by omega, by simp, HJ2, kp⟩
          case measure => simp [intOf]; omega
    · obtain rfl : b = 32 := by omega
      gi_wp2
      go_end0
      exact ⟨⟨_, rfl⟩, .inl ⟨_, rfl, hj.out⟩⟩
end Go.Proofs.Ytkopbnppjhdbgaa
