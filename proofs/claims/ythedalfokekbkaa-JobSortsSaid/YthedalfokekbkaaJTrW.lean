/-
  Stage 11: the walk of JobTrains.
-/
import Derived.Test.YthedalfokekbkaaJFlW
set_option linter.unusedSimpArgs false
set_option linter.unusedVariables false
namespace Go.Proofs.Ythedalfokekbkaa
open Go.RowKit Go.Lib

/-- The indexes below k of train n. -/
def posK (l : List It) (n : Int) (k : Nat) : List Nat := (List.range k).filter fun x => trn l x == n
theorem posK_yes {l : List It} {n : Int} {k : Nat} (h : trn l k = n) : posK l n (k + 1) = posK l n k ++ [k] := by
  unfold posK; rw [List.range_succ, List.filter_append]; simp [h]
theorem posK_no {l : List It} {n : Int} {k : Nat} (h : trn l k ≠ n) : posK l n (k + 1) = posK l n k := by
  unfold posK; rw [List.range_succ, List.filter_append]; simp [h]
theorem posK_mem {l : List It} {n : Int} {k x : Nat} : x ∈ posK l n k ↔ x < k ∧ trn l x = n := by
  unfold posK; rw [List.mem_filter, List.mem_range, beq_iff_eq]
theorem posK_asc (l : List It) (n : Int) (k : Nat) : (posK l n k).Pairwise (· < ·) := List.Pairwise.filter _ List.pairwise_lt_range
theorem posK_len (l : List It) (n : Int) (k : Nat) : (posK l n k).length ≤ k := by
  unfold posK; have := List.length_filter_le (fun x => trn l x == n) (List.range k); simpa using this
def subI (l : List It) (is : List Nat) : List It := is.map fun x => l.getD x it0
def subV (v : List Int) (is : List Nat) : List Int := is.map fun x => v.getD x 0
theorem subI_at (l : List It) (is : List Nat) {k : Nat} (hk : k < is.length) : (subI l is).getD k it0 = l.getD (is.getD k 0) it0 := by
  unfold subI; simp [List.getD_eq_getElem?_getD, hk]
theorem subV_at (v : List Int) (is : List Nat) {k : Nat} (hk : k < is.length) : (subV v is).getD k 0 = v.getD (is.getD k 0) 0 := by
  unfold subV; simp [List.getD_eq_getElem?_getD, hk]
theorem asc_lt {is : List Nat} (h : is.Pairwise (· < ·)) {j k : Nat} (hj : j < is.length) (hk : k < is.length) : j < k ↔ is.getD j 0 < is.getD k 0 := by
  have key : ∀ a b, a < b → b < is.length → is.getD a 0 < is.getD b 0 := fun a b hab hb => by
    have := List.pairwise_iff_getElem.1 h a b (by omega) hb hab
    rw [List.getD_eq_getElem?_getD, List.getElem?_eq_getElem (show a < is.length by omega), List.getD_eq_getElem?_getD, List.getElem?_eq_getElem hb]
    exact this
  constructor
  · exact fun g => key j k g hk
  · intro g
    rcases Nat.lt_trichotomy j k with e | e | e
    · exact e
    · subst e; omega
    · have := key k j e hj; omega
theorem rel_sub {l : List It} {is : List Nat} (h : is.Pairwise (· < ·)) {k j : Nat} (hk : k < is.length) (hj : j < is.length) : rel (subI l is) k j = rel l (is.getD k 0) (is.getD j 0) := by
  unfold rel trn blk
  rw [subI_at l is hk, subI_at l is hj]
  have := asc_lt h hj hk
  by_cases g : j < k
  · rw [if_pos g, if_pos (this.1 g)]
  · rw [if_neg g, if_neg (fun e => g (this.2 e))]
/-- The levels of a train. -/
theorem lev_sub {l : List It} {v : List Int} (h : Lev l v) (n : Int) : Lev (subI l (posK l n l.length)) (subV v (posK l n l.length)) := by
  have ha := posK_asc l n l.length
  obtain ⟨is, his⟩ : ∃ is, is = posK l n l.length := ⟨_, rfl⟩
  have hmem : ∀ x, x ∈ is ↔ x < l.length ∧ trn l x = n := fun x => by rw [his]; exact posK_mem
  rw [← his] at ha ⊢
  have hvia : ∀ k j, k < is.length → j < is.length → via (subI l is) (subV v is) k j = via l v (is.getD k 0) (is.getD j 0) := fun k j hk hj => by
    unfold via
    rw [rel_sub ha hk hj, subV_at v is hk]
  refine ⟨by unfold subI subV; simp, fun j hj => ?_⟩
  have hj : j < is.length := by unfold subI at hj; simpa using hj
  have hlen : (subI l is).length = is.length := by unfold subI; simp
  have hxj := (hmem _).1 (getD_memN hj)
  have hM := h.max _ hxj.1
  rw [subV_at v is hj]
  refine ⟨hM.pos, fun k hk => ?_, ?_⟩
  · have hk : k < is.length := by rw [← hlen]; exact hk
    show via (subI l is) (subV v is) k j ≤ _
    rw [hvia k j hk hj]
    exact hM.le _ ((hmem _).1 (getD_memN hk)).1
  · rcases hM.hit with e | ⟨x, hx, e⟩
    · exact Or.inl e
    · have e' : via l v x (is.getD j 0) = v.getD (is.getD j 0) 0 := e
      by_cases g : rel l x (is.getD j 0) = 0
      · rw [via_zero g] at e'; exact Or.inl e'.symm
      · have ht := (rel_pos g).1
        obtain ⟨k, hk⟩ := List.mem_iff_getElem?.1 ((hmem x).2 ⟨hx, by rw [ht]; exact hxj.2⟩)
        have hkl := (List.getElem?_eq_some_iff.1 hk).1
        have hke : is.getD k 0 = x := by rw [List.getD_eq_getElem?_getD, hk]; rfl
        refine Or.inr ⟨k, by rw [hlen]; exact hkl, ?_⟩
        show via (subI l is) (subV v is) k j = _
        rw [hvia k j hkl hj, hke]; exact e'
theorem runM_mono {r s : Int} {l : List It} (h : runM s l) (hrs : r ≤ s) : runM r l := by
  cases l with
  | nil => trivial
  | cons p l => exact ⟨⟨h.1.1, h.1.2.1, ⟨by have := h.1.2.2.1.1; omega, h.1.2.2.1.2⟩, h.1.2.2.2⟩, h.2⟩
theorem runM_filter {r : Int} {l : List It} (h : runM r l) (q : It → Bool) : runM r (l.filter q) := by
  induction l generalizing r with
  | nil => trivial
  | cons p l ih =>
    rw [List.filter_cons]
    split
    · exact ⟨h.1, ih h.2⟩
    · exact runM_mono (ih h.2) h.1.2.2.1.1
theorem subI_filter (l : List It) (n : Int) : ∀ k, k ≤ l.length → subI l (posK l n k) = (l.take k).filter fun p => p.1 == n := by
  intro k
  induction k with
  | zero => intro _; rfl
  | succ k ih =>
    intro hk
    have hk' : k < l.length := by omega
    have e : l.take (k + 1) = l.take k ++ [l.getD k it0] := by
      rw [List.take_add_one, List.getElem?_eq_getElem hk', List.getD_eq_getElem?_getD, List.getElem?_eq_getElem hk']; rfl
    rw [e, List.filter_append, ← ih (by omega)]
    by_cases h : trn l k = n
    · rw [posK_yes h]
      have h' : ((l.getD k it0).1 == n) = true := by simpa [trn] using h
      unfold subI
      simp only [List.map_append, List.map_cons, List.map_nil, List.filter_cons, h', if_true, List.filter_nil]
    · rw [posK_no h]
      have h' : ((l.getD k it0).1 == n) = false := by simpa [trn] using h
      simp only [List.filter_cons, h', List.filter_nil]
      simp
theorem runM_sub {l : List It} (h : runM 0 l) (n : Int) : runM 0 (subI l (posK l n l.length)) := by
  rw [subI_filter l n l.length (Nat.le_refl _), List.take_length]
  exact runM_filter h _
/-- Two lists of the call's own lie apart. -/
def Apt (u v : Value) : Prop := ∀ g, u.ownBlock = some g → v.ownBlock ≠ some g
theorem Apt.symm {u v : Value} (h : Apt u v) : Apt v u := fun g h1 h2 => h g h2 h1
/-- What is known while the items of one train are gathered. -/
structure TSt (w5 wr : World) (bp base : Nat) (Ap : Option Addr) (cp : Nat) (wt : Int) (ps : List It) (vw : Value) (zs : List Int) : Prop where
  box : JBox wr bp Ap ps.length cp wt
  fz : ∀ j, wr.frozen? ⟨bp, j, none⟩ = false
  its : IOwn 26 wr base (.slice Ap ps.length cp) ps
  wan : Own .i64 3 wr base vw zs
  apt : Apt (.slice Ap ps.length cp) vw
  bel : Below bp w5 wr
  lt : bp < base
  le : base ≤ wr.heap.size
theorem TSt.below {w5 wr wr' : World} {bp base cp : Nat} {Ap : Option Addr} {wt : Int} {ps : List It} {vw : Value} {zs : List Int} (h : TSt w5 wr bp base Ap cp wt ps vw zs) (k : Below wr.heap.size wr wr') : TSt w5 wr' bp base Ap cp wt ps vw zs :=
  ⟨h.box.below k h.box.lt, fun j => (k.frozen (p := ⟨bp, j, none⟩) h.box.lt).trans (h.fz j), h.its.below k, h.wan.below k, h.apt, h.bel.trans (k.mono (Nat.le_of_lt h.box.lt)), h.lt, Nat.le_trans h.le k.size⟩
theorem TSt.app {w5 W w' : World} {bp base cp g cap : Nat} {Ap : Option Addr} {wt : Int} {ps : List It} {vw : Value} {zs : List Int} {p : It} (h : TSt w5 W bp base Ap cp wt ps vw zs)
    (ho : IOwn 26 w' base (.slice (some ⟨g, 0, none⟩) (ps ++ [p]).length cap) (ps ++ [p])) (hg : W.grownBy w' (Value.slice Ap ps.length cp).ownBlock) (hat : (Value.slice Ap ps.length cp).ownBlock = some g ∨ g = W.heap.size) :
    TSt w5 (w'.setCell ⟨bp, 0, none⟩ (.slice (some ⟨g, 0, none⟩) (ps ++ [p]).length cap)) bp base (some ⟨g, 0, none⟩) cap wt (ps ++ [p]) vw zs ∧ (∃ u, w'.cell? ⟨bp, 0, none⟩ = some u) ∧ w'.frozen? ⟨bp, 0, none⟩ = false := by
  have hne : ∀ k, (Value.slice Ap ps.length cp).ownBlock = some k → bp < k := fun k hk => by have := (h.its.block hk).1; have := h.lt; omega
  have hbp : (Value.slice Ap ps.length cp).ownBlock ≠ some bp := fun e => by have := hne bp e; omega
  have hgb : bp < g := by
    rcases hat with e | e
    · exact hne g e
    · have := h.le; have := h.lt; omega
  have hblk : w'.heap[bp]? = W.heap[bp]? := hg.block bp h.box.lt (fun e => hbp e.symm)
  have c0 : w'.cell? ⟨bp, 0, none⟩ = some (.slice Ap ps.length cp) := (World.cell?_of_block (w := W) hblk).trans h.box.c0
  have c1 : w'.cell? ⟨bp, 1, none⟩ = some (.int .i64 wt) := (World.cell?_of_block (w := W) hblk).trans h.box.c1
  have f : ∀ j, w'.frozen? ⟨bp, j, none⟩ = false := fun j => (World.frozen?_of_block (w := W) hblk).trans (h.fz j)
  have gs : w'.grownBy (w'.setCell ⟨bp, 0, none⟩ (.slice (some ⟨g, 0, none⟩) (ps ++ [p]).length cap)) (some bp) :=
    ⟨rfl, rfl, rfl, by rw [World.size_setCell]; exact Nat.le_refl _, fun k hk hn => Below.heap_setCell _ _ _ _ (fun e => hn (by first | exact congrArg some e | exact congrArg some e.symm))⟩
  have hvne : ∀ k, vw.ownBlock = some k → base ≤ k ∧ k < W.heap.size := fun k hk => own_block h.wan hk
  have wan1 : Own .i64 3 w' base vw zs := h.wan.kept hg (by
    cases hv : vw.ownBlock with
    | none => exact Or.inl rfl
    | some k => exact Or.inr (fun e => h.apt k e.symm hv))
  refine ⟨⟨⟨World.cell?_setCell_same _ _ _ c0, (World.cell?_setCell_other _ _ _ _ (by simp)).trans c1, by rw [World.size_setCell]; exact Nat.lt_of_lt_of_le h.box.lt hg.size⟩, fun j => by rw [World.frozen?_setCell]; exact f j, ?_, ?_, ?_, ?_, h.lt, by rw [World.size_setCell]; exact Nat.le_trans h.le hg.size⟩, ⟨_, c0⟩, f 0⟩
  · exact ho.kept gs (Or.inr (fun e => by have : g = bp := by simpa [Value.ownBlock] using e
                                          omega))
  · refine wan1.kept gs ?_
    cases hv : vw.ownBlock with
    | none => exact Or.inl rfl
    | some k => exact Or.inr (fun e => by have := (hvne k hv).1; have := h.lt; have : k = bp := by simpa using e
                                          omega)
  · intro k hk hv
    have e : g = k := by simpa [Value.ownBlock] using hk
    subst e
    rcases hat with e | e
    · exact h.apt g e hv
    · have := (hvne g hv).2; omega
  · exact ((h.bel.grown hg (Nat.le_of_lt h.box.lt) (fun k hk => Nat.le_of_lt (hne k hk))).setCell (p := ⟨bp, 0, none⟩) (Nat.le_refl bp) _)
theorem TSt.want {w5 W w' : World} {bp base cp : Nat} {Ap : Option Addr} {wt : Int} {ps : List It} {vw v' : Value} {zs : List Int} {y : Int} (h : TSt w5 W bp base Ap cp wt ps vw zs) (A : AppI base vw zs y W v' w') :
    TSt w5 w' bp base Ap cp wt ps v' (zs ++ [y]) := by
  obtain ⟨O, hg, g, c, rfl, hlt, hat⟩ := A
  have hvb : ∀ k, vw.ownBlock = some k → base ≤ k := fun k hk => (own_block h.wan hk).1
  have hblk : w'.heap[bp]? = W.heap[bp]? := hg.block bp h.box.lt (fun e => by have := hvb bp e.symm; have := h.lt; omega)
  refine ⟨⟨(World.cell?_of_block (w := W) hblk).trans h.box.c0, (World.cell?_of_block (w := W) hblk).trans h.box.c1, Nat.lt_of_lt_of_le h.box.lt hg.size⟩, fun j => (World.frozen?_of_block (w := W) hblk).trans (h.fz j), h.its.kept hg ?_, O, ?_, h.bel.grown hg (Nat.le_of_lt h.box.lt) (fun k hk => by have := hvb k hk; have := h.lt; omega), h.lt, Nat.le_trans h.le hg.size⟩
  · cases hv : (Value.slice Ap ps.length cp).ownBlock with
    | none => exact Or.inl rfl
    | some k => exact Or.inr (fun e => h.apt k hv e.symm)
  · intro k hk hv
    have e : g = k := by simpa [Value.ownBlock] using hv
    subst e
    rcases hat with e | e
    · exact h.apt g hk e
    · have := (h.its.block hk).2; omega
set_option maxRecDepth 100000 in
set_option maxHeartbeats 3200000 in
theorem trains_walk (A : Option Addr) (c : Nat) (zs : List Int) (w : World) (hr : Row .i64 w w.heap.size A zs) (hm : zs.length ≤ maxLen) (hw : ∀ n ∈ zs, (Lit.int .i64 n).wf = true) :
    Calls Try.prog 9 #[.slice A zs.length c] w fun e w' => e = .returned (.bool true) ∧ Below w.heap.size w w' := by
  obtain ⟨i0, hi, hz0, hz1, hz2⟩ := info_parts infoIt
  have K := Lib.hid (mk_row (c := c) (T := 56) hr hm hw)
  have B := Lib.hid ((Below.refl w.heap.size w).alloc (Nat.le_refl _) (.cells #[.slice A zs.length c, .int .i64 0] 56))
  clear hr hw
  go_enter Try.func9, Try.ntmps9
  go_wp2_with fail
  refine (new_any A zs.length c w).mono ?_
  rintro e w1 ⟨rfl, hw1⟩
  rw [← hw1] at K B
  clear hw1 hm
  go_wp2_with fail
  refine (mjob_any w.heap.size 0 16 w1 K.out (by omega) (by omega)).mono ?_
  rintro e w2 ⟨jA, jc, l, wt, rfl, O, hl, hrun, hwt, _, V⟩
  have S0 := JSt.new rfl B.out K.out O (by omega) hrun hwt V
  have S := Lib.hid S0
  obtain ⟨b, hb⟩ : ∃ b, b = w2.heap.size := ⟨_, rfl⟩
  rw [← hb] at S
  clear K B O V S0 hwt hrun
  go_upto_region 2 with fail
  rw [← hb]
  generalize w2.alloc (.cells #[.slice jA l.length jc, .int .i64 wt] 24) = w3 at *
  clear hb
  have HLV := Lib.hid (levels_any l jA jc wt w3 S.out.row)
  obtain ⟨L, hL⟩ : ∃ n, n = l.length := ⟨_, rfl⟩
  have HL := Lib.hid hL
  have J := S.out.box
  rw [← hL] at J HLV hl ⊢
  obtain ⟨j0, j1, jl⟩ := J
  clear hL
  go_wp2_with fail
  refine HLV.out.mono ?_
  rintro e w4 ⟨v, vs, rfl, O, hlev, _, B4⟩
  rw [S.out.val]
  have HV := Lib.hid (hlev S.out.val)
  have S4 := Lib.hid (S.out.below B4)
  obtain ⟨vA, vc, rfl, R, _⟩ := O.slice
  have HR := Lib.hid R
  have hvl : vs.length = L := by rw [HV.out.len, HL.out]
  rw [hvl]
  have HVL := Lib.hid hvl
  have J := S4.out.box
  rw [← HL.out] at J
  clear hlev B4 O R S HLV hvl j0 j1 jl
  obtain ⟨j0, j1, jl⟩ := J
  have hne : ((L : Int) != (L : Int)) = false := by simp
  have HJB := Lib.hid (show ∀ W, Below w4.heap.size w4 W → JBox W b jA L jc wt from fun W k => by
    have := (S4.out.below k).box
    rwa [← HL.out] at this)
  go_wp2_with fail
  go_loopw [6] (fun iv wr => ∃ n : Nat, n ≤ 3 ∧ iv = .int .i64 (n : Int) ∧ Hid (Below w4.heap.size w4 wr)) (fun iv _ => 3 - (intOf iv).toNat)
  case atStart => exact ⟨0, by omega, rfl, Lib.hid (Below.refl _ _)⟩
  case round =>
    clear j0 j1 jl hne
    obtain ⟨n, hn, rfl, B⟩ := hrel
    by_cases hlt : n < 3
    · obtain ⟨j0, j1, jl⟩ := HJB.out _ B.out
      have T0 := Lib.hid (show TSt wr (wr.alloc (.cells #[.slice none 0 0, .int .i64 wt] 24)) wr.heap.size (wr.heap.size + 1) none 0 wt [] (.slice none 0 0) [] from
        ⟨JBox.new _ rfl, fun j => frozen_new _ _ _ _ _ rfl, IOwn.nil, Own.nil, (fun g hg => absurd hg (by simp [Value.ownBlock])), (Below.refl _ _).alloc (Nat.le_refl _) _, Nat.lt_succ_self _, by simp⟩)
      obtain ⟨bp, hbp⟩ : ∃ x, x = wr.heap.size := ⟨_, rfl⟩
      obtain ⟨w5, hw5⟩ : ∃ x, x = wr := ⟨_, rfl⟩
      have HBP := Lib.hid (show bp = w5.heap.size by rw [hw5]; exact hbp)
      have HB5 := Lib.hid (show Below w4.heap.size w4 w5 by rw [hw5]; exact B.out)
      go_upto_region 9 with fail
      rw [← hbp, ← hw5] at T0 ⊢
      generalize w5.alloc (.cells #[.slice none 0 0, .int .i64 wt] 24) = w6 at *
      have HT0 := Lib.hid (show TSt w5 w6 bp (bp + 1) none 0 wt (subI l (posK l (n : Int) 0)) (.slice none 0 0) (subV vs (posK l (n : Int) 0)) from T0.out)
      clear hbp hw5 j0 j1 jl B T0
      have HBB := Lib.hid (fun (W : World) (k : Below bp w5 W) => (show Below w4.heap.size w4 W from HB5.out.trans ((show Below w5.heap.size w5 W by rw [← HBP.out]; exact k).mono HB5.out.size)))
      obtain ⟨j0, j1, jl⟩ := HJB.out _ (HBB.out _ HT0.out.bel)
      go_wp2_with fail
      go_loopw [8, 41] (fun wv iv wi => ∃ (i : Nat) (Ap : Option Addr) (cp : Nat), i ≤ L ∧ iv = .int .i64 (i : Int) ∧ Hid (TSt w5 wi bp (bp + 1) Ap cp wt (subI l (posK l (n : Int) i)) wv (subV vs (posK l (n : Int) i)))) (fun _ iv _ => L - (intOf iv).toNat)
      case atStart => exact ⟨0, none, 0, by omega, rfl, HT0⟩
      case round =>
        clear HT0 j0 j1 jl
        obtain ⟨i, Ap, cp, hi', rfl, T⟩ := hrel
        by_cases hli : i < L
        · have hBw := HBB.out _ T.out.bel
          obtain ⟨ad, rfl, C⟩ := (S4.out.row.below hBw).at_ i (by rw [← HL.out]; exact hli)
          obtain ⟨c0, c1, c2, c3⟩ := C.spelt
          obtain ⟨vad, rfl, _, cv⟩ := (HR.out.below hBw) i (by rw [HVL.out]; exact hli)
          have htr : trn l i = (l.getD i it0).1 := rfl
          obtain ⟨⟨t, bb, r, g⟩, hp⟩ : ∃ p, p = l.getD i it0 := ⟨_, rfl⟩
          have HP := Lib.hid hp
          rw [← hp] at c0 c1 c2 c3 htr
          obtain ⟨z, hz⟩ : ∃ z, z = vs.getD i 0 := ⟨_, rfl⟩
          have HZ := Lib.hid hz
          rw [← hz] at cv
          have HTR := Lib.hid htr
          have hli' : (i : Int) < (L : Int) := by omega
          have T1 := Lib.hid (T.out.below ((Below.refl _ _).alloc (Nat.le_refl _) (.cells #[.int .i64 t, .int .i64 bb, .int .i64 r, .int .i64 g] 26)))
          have P1 := (IPl.new (w := wr) (p := (t, bb, r, g)) (T := 26) wr.heap.size rfl)
          have HPK := Lib.hid (posK_len l (n : Int) i)
          clear C hp hz htr
          by_cases e : t = (n : Int)
          · subst e
            have htn : ((n : Int) == (n : Int)) = true := by simp
            have hpk := posK_yes (l := l) (n := (n : Int)) (k := i) HTR.out
            have HSI := Lib.hid (show subI l (posK l (n : Int) (i + 1)) = subI l (posK l (n : Int) i) ++ [((n : Int), bb, r, g)] by rw [hpk, HP.out]; unfold subI; simp)
            have HSV := Lib.hid (show subV vs (posK l (n : Int) (i + 1)) = subV vs (posK l (n : Int) i) ++ [z] by rw [hpk, HZ.out]; unfold subV; simp)
            have HLN := Lib.hid (show (subI l (posK l (n : Int) i)).length ≤ 16 ∧ (subV vs (posK l (n : Int) i)).length ≤ 16 from ⟨by unfold subI; have := HPK.out; simp; omega, by unfold subV; have := HPK.out; simp; omega⟩)
            generalize subI l (posK l (n : Int) i) = ps at *
            generalize subV vs (posK l (n : Int) i) = qs at *
            have HVC := Lib.hid (fun (W : World) (k : Below bp w5 W) => (show W.cell? (vad.add i) = some (.int .i64 z) from by
              obtain ⟨_, e', _, cc⟩ := (HR.out.below (HBB.out W k)) i (by rw [HVL.out]; exact hli)
              obtain rfl : vad = _ := by injection e'
              rw [cc, HZ.out]))
            clear cv HP HZ T
            go_upto_region 13 with fail
            clear c0 c1 c2 c3
            obtain ⟨q, hq⟩ : ∃ q, q = wr.heap.size := ⟨_, rfl⟩
            rw [← hq] at P1 ⊢
            generalize wr.alloc (.cells #[.int .i64 (n : Int), .int .i64 bb, .int .i64 r, .int .i64 g] 26) = W1 at *
            obtain ⟨p0, p1, p2, p3, plt⟩ := P1
            obtain ⟨j0, j1, jl⟩ := T1.out.box
            clear hq
            go_wp2_with (first
              | (at_builtin; refine wpList_append_lies _ rfl (.tmp 51) (.tmp 53) 22 rfl (bp + 1) 26 i0 (.agg #[.int .i64 0, .int .i64 0, .int .i64 0, .int .i64 0]) 4 32 Try.underlying22 hi hz0 hz1 hz2 rfl (by decide) _ ps.length ((flatI ps).map (Value.int .i64)) rfl (T1.out.its.alloc _) ⟨W1.heap.size, 0, none⟩ 1 1 ((flatI [((n : Int), bb, r, g)]).map (Value.int .i64)) rfl rfl (news_int (W := W1) (ys := flatI [((n : Int), bb, r, g)])) (one_cells (ys := flatI [((n : Int), bb, r, g)])) (by decide) (by unfold maxLen; have := HLN.out; omega) (by have := HLN.out; omega) (by have := T1.out.le; simp only [World.size_alloc]; omega) _ rfl ?_; intro g7 cap w8 hown hgr hat hlt2; have AP := IOwn.app (l := ps) (m := [((n : Int), bb, r, g)]) hown rfl rfl; have hT2 := (T1.out.below ((Below.refl _ _).alloc (Nat.le_refl _) (.cells #[.int .i64 (n : Int), .int .i64 bb, .int .i64 r, .int .i64 g] 26))).app (p := ((n : Int), bb, r, g)) (by rw [List.length_append]; exact AP) hgr hat; obtain ⟨T2, ⟨u, hu⟩, hfu⟩ := hT2; simp only [List.length_append, List.length_cons, List.length_nil, Nat.zero_add] at T2; have HT2 := Lib.hid T2; have cv9 := HVC.out _ T2.bel; clear hown hgr hat hlt2 AP T2 p0 p1 p2 p3 plt j0 j1 jl)
              | (at_builtin; refine wpList_appI _ rfl (.tmp 56) (.tmp 61) rfl (bp + 1) _ qs rfl (HT2.out.wan.alloc _) z (w8.setCell ⟨bp, 0, none⟩ (.slice (some ⟨g7, 0, none⟩) (ps.length + 1) cap)) rfl w8.heap.size (by rw [World.size_setCell]) 1 rfl (by have := HLN.out; omega) (le_allocW HT2.out.le) ?_; intro v5 w9 A5; have HT3 := Lib.hid ((HT2.out.below ((Below.refl _ _).alloc (Nat.le_refl _) (.cells #[.int .i64 z] 3))).want A5); clear A5 cv9 hu hfu))
            go_roundw
            case rel =>
              refine ⟨v5, _, _, .int .i64 ((i + 1 : Nat) : Int), ⟨i + 1, by omega, rfl, some ⟨g7, 0, none⟩, cap, ?_⟩, rfl, rfl, rfl, by go_num⟩
              rw [HSI.out, HSV.out]; exact HT3
            case measure => simp [intOf]; omega
          · have htn : (t == (n : Int)) = false := by simpa using e
            have hpk := posK_no (l := l) (n := (n : Int)) (k := i) (by rw [HTR.out]; exact e)
            have HSI := Lib.hid hpk
            clear cv HP HZ T
            go_upto_region 13 with fail
            clear c0 c1 c2 c3
            obtain ⟨q, hq⟩ : ∃ q, q = wr.heap.size := ⟨_, rfl⟩
            rw [← hq] at P1 ⊢
            generalize wr.alloc (.cells #[.int .i64 t, .int .i64 bb, .int .i64 r, .int .i64 g] 26) = W1 at *
            obtain ⟨p0, p1, p2, p3, plt⟩ := P1
            clear hq e hpk
            go_wp2_with fail
            go_roundw
            case rel => exact ⟨i + 1, Ap, cp, by omega, by go_num, by rw [HSI.out]; exact T1⟩
            case measure => simp [intOf]; omega
        · obtain rfl : i = L := by omega
          have hLl := HL.out
          have HP := Lib.hid (show (subI l (posK l (n : Int) i)).length ≤ 16 from by unfold subI; have := posK_len l (n : Int) i; simp; omega)
          have HLV2 := Lib.hid (show Lev (subI l (posK l (n : Int) i)) (subV vs (posK l (n : Int) i)) by rw [hLl]; exact lev_sub HV.out _)
          have HR2 := Lib.hid (show runM 0 (subI l (posK l (n : Int) i)) by rw [hLl]; exact runM_sub S4.out.run _)
          generalize subI l (posK l (n : Int) i) = ps at *
          generalize subV vs (posK l (n : Int) i) = qs at *
          have HVAL := Lib.hid (valid_of (l := ps) (wt := wt) (by have := HP.out; omega) HR2.out S4.out.wt_)
          have HLW := Lib.hid (fun (W : World) (k : Below wr.heap.size wr W) => levels_any ps Ap cp wt W (T.out.its.irow.below k))
          obtain ⟨j0, j1, jl⟩ := T.out.box
          clear hLl hli
          go_wp2_with fail
          refine (HLW.out wr (Below.refl _ _)).mono ?_
          rintro e w7 ⟨v7, ms, rfl, O7, hlev, _, B7⟩
          rw [HVAL.out]
          have hms := lev_uniq (valid_ok HVAL.out).2.2 (hlev HVAL.out) HLV2.out
          subst hms
          have T7 := Lib.hid (T.out.below B7)
          obtain ⟨mA, mc, rfl, mR, _, hmm, _⟩ := O7.slice
          obtain ⟨qA, qc, rfl, qR, _⟩ := T7.out.wan.slice
          have HMR := Lib.hid mR
          have HQR := Lib.hid qR
          clear O7 hlev B7 mR qR j0 j1 jl
          go_wp2_with fail
          refine (ints_same ms mA qA mc qc w7 HMR.out HQR.out hmm).mono ?_
          rintro e w8 ⟨rfl, d, hw8⟩
          have HB8 := Lib.hid (show Below w4.heap.size w4 w8 by rw [hw8]; exact bdn (HBB.out _ T7.out.bel))
          clear hw8
          go_wp2_with fail
          go_roundw
          case rel => exact ⟨n + 1, by omega, by go_num, HB8⟩
          case measure => simp [intOf]; omega
    · obtain rfl : n = 3 := by omega
      have HB := Lib.hid (S4.out.below B.out).bel
      clear hlt B
      go_wp2_with fail
      refine (sane_any _).mono ?_
      rintro e w6 ⟨rfl, B6⟩
      have HB6 := Lib.hid (HB.out.trans (B6.mono HB.out.size))
      clear B6
      go_wp2_with fail
      go_ret
      exact ⟨rfl, HB6.out⟩
theorem trains_law (a : Option Addr) (len cap : Nat) (zs : List Int) (w : World) (h : IsRow .i64 w a len cap zs) :
    Calls Try.prog 9 #[.slice a len cap] w fun e w' => e = .returned (.bool true) ∧ Below w.heap.size w w' := by
  obtain ⟨l, rfl, h1, h2, h3⟩ := h.row
  exact trains_walk a cap l w h1 h2 h3
end Go.Proofs.Ythedalfokekbkaa
