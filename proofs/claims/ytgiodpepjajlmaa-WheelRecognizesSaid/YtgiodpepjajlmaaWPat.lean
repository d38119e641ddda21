/-
  Stage 7: the law's patterns: a list of lists of the call's own.
-/
import Derived.Test.YtgiodpepjajlmaaWKnow
import Derived.Test.YtgiodpepjajlmaaWROff
set_option linter.unusedSimpArgs false
set_option linter.unusedVariables false
namespace Go.Proofs.Ytgiodpepjajlmaa
open Go.RowKit

abbrev Dsc := Option Addr × Nat × Nat
abbrev dscV (d : Dsc) : Value := .slice d.1 d.2.1 d.2.2
def PR : Rec Dsc := ⟨1, by decide, fun d => [dscV d], fun _ => rfl, fun d u hu => by
  obtain rfl := List.mem_singleton.1 hu; rfl⟩
theorem infoSl : (Try.prog.info? 22).map (fun i => (i.zero, i.size, i.bytes)) = some (some (.slice none 0 0), 1, 24) := by kernel_rfl
def AppS (base : Nat) (v : Value) (ds : List Dsc) (y : Dsc) (W : World) (v' : Value) (w' : World) : Prop :=
  ROwn PR 22 w' base v' (ds ++ [y]) ∧ W.grownBy w' v.ownBlock ∧ ∃ g c, v' = .slice (some ⟨g, 0, none⟩) (ds.length + 1) c ∧ g < w'.heap.size ∧ (v.ownBlock = some g ∨ g = W.heap.size)
theorem wpList_appSl (W : World) {ops : Array Oper} {rest : List Oper} {o : Oper} {a : Act} {Q : Exit → Act → World → Prop} (hgd : o.guard = none) (s x : Operand)
    (ho : o.op = .call { callee := .builtin .append, args := #[s, x], argTypes := #[23, 23] }) (base : Nat) (v : Value) (ds : List Dsc) (hs : a.eval s = v) (O : ROwn PR 22 W base v ds)
    (y : Dsc) (w0 : World) (hW : W = w0.alloc (.cells #[dscV y] 22)) (z : Nat) (hz : w0.heap.size = z) (c : Nat) (hx : a.eval x = .slice (some ⟨z, 0, none⟩) 1 c)
    (hl : ds.length + 1 ≤ 1000000000) (hb : base ≤ W.heap.size)
    (h : ∀ v' w', AppS base v ds y W v' w' → wpList Try.prog ops Q rest (a.put o.dst v') w') : wpList Try.prog ops Q (o :: rest) a W := by
  obtain ⟨i0, hi, hz0, hz1, hz2⟩ := info_parts infoSl
  subst hz
  refine wpList_append_lies W hgd s x 23 ho base 22 i0 (.slice none 0 0) 1 24 Try.underlying23 hi hz0 hz1 hz2 rfl (by decide) v ds.length (PR.flat ds) hs O ⟨w0.heap.size, 0, none⟩ 1 c (PR.flat [y]) hx rfl (by rw [hW]; exact newR (R := PR)) (flatR_one PR [y]) (by decide) (by unfold maxLen; omega) (by omega) hb W.heap.size rfl ?_
  intro g cap w1 hown hg hat hlt
  exact h _ w1 ⟨ROwn.app (R := PR) (l := ds) (m := [y]) hown rfl rfl, hg, g, cap, rfl, hlt, hat⟩
/-- A list of lists of the call's own. -/
structure Pats (w : World) (base : Nat) (vo : Value) (ds : List Dsc) (ps : List (List Int)) : Prop where
  own : ROwn PR 22 w base vo ds
  len : ds.length = ps.length
  each : ∀ (j : Nat) p, ps[j]? = some p → ∃ d, ds[j]? = some d ∧ d.2.1 = p.length ∧ Own .i64 3 w base (dscV d) p ∧ Apart2 vo (dscV d)
theorem Pats.nil {w : World} {base : Nat} : Pats w base (.slice none 0 0) [] [] := ⟨ROwn.nil, rfl, fun j p hj => by simp at hj⟩
theorem Pats.below {w w' : World} {base : Nat} {vo : Value} {ds : List Dsc} {ps : List (List Int)} (h : Pats w base vo ds ps) (b : Below w.heap.size w w') : Pats w' base vo ds ps :=
  ⟨h.own.below b, h.len, fun j p hj => by
    obtain ⟨d, h1, h2, h3, h4⟩ := h.each j p hj
    exact ⟨d, h1, h2, h3.below b, h4⟩⟩
theorem Pats.moves {m : Nat} {w w' : World} {base : Nat} {vo : Value} {ds : List Dsc} {ps : List (List Int)} (h : Pats w base vo ds ps) (b : Moves m w w') (hm : m < base) : Pats w' base vo ds ps :=
  ⟨h.own.moves b hm, h.len, fun j p hj => by
    obtain ⟨d, h1, h2, h3, h4⟩ := h.each j p hj
    exact ⟨d, h1, h2, h3.moves b hm, h4⟩⟩
theorem Pats.app {w w' : World} {base : Nat} {vo v' : Value} {ds : List Dsc} {ps : List (List Int)} {y : Dsc} {p : List Int} {o : Obj} (h : Pats w base vo ds ps) (hp : Own .i64 3 w base (dscV y) p) (hy : y.2.1 = p.length) (ha : Apart2 vo (dscV y))
    (A : AppS base vo ds y (w.alloc o) v' w') : Pats w' base v' (ds ++ [y]) (ps ++ [p]) := by
  obtain ⟨O', hg, g, c, rfl, hlt, hat⟩ := A
  have keep : ∀ (d : Dsc) (q : List Int), Own .i64 3 w base (dscV d) q → Apart2 vo (dscV d) → Own .i64 3 w' base (dscV d) q ∧ Apart2 (.slice (some ⟨g, 0, none⟩) (ds.length + 1) c) (dscV d) := fun d q hq hdq => by
    refine ⟨(hq.alloc o).kept hg ?_, fun g' hg' e => ?_⟩
    · cases hu : (dscV d).ownBlock with
      | none => exact Or.inl rfl
      | some b => exact Or.inr (fun e => hdq b e.symm hu)
    · have e1 : g = g' := by simpa [Value.ownBlock] using hg'
      subst e1
      rcases hat with hat | hat
      · exact hdq g hat e
      · have h1 := (own_block hq e).2
        simp at hat
        omega
  refine ⟨O', by rw [List.length_append, List.length_append, h.len]; rfl, fun j q hj => ?_⟩
  by_cases hjl : j < ps.length
  · rw [List.getElem?_append_left hjl] at hj
    obtain ⟨d, h1, h2, h3, h4⟩ := h.each j q hj
    obtain ⟨k1, k2⟩ := keep d q h3 h4
    exact ⟨d, by rw [List.getElem?_append_left (by rw [h.len]; exact hjl)]; exact h1, h2, k1, k2⟩
  · rw [List.getElem?_append_right (by omega)] at hj
    have hj0 : j - ps.length = 0 := by have := (List.getElem?_eq_some_iff.1 hj).1; simp at this; omega
    rw [hj0] at hj
    injection hj with hj
    subst hj
    obtain ⟨k1, k2⟩ := keep y _ hp ha
    exact ⟨y, by rw [List.getElem?_append_right (by rw [h.len]; omega), h.len, hj0]; rfl, hy, k1, k2⟩
theorem Pats.pp {w : World} {base : Nat} {vo : Value} {ds : List Dsc} {ps : List (List Int)} (h : Pats w base vo ds ps) : ∃ A c, vo = .slice A ps.length c ∧ PP w A ps := by
  obtain ⟨A, c, e, R⟩ := h.own.slice
  refine ⟨A, c, by rw [e, h.len], fun k p hk => ?_⟩
  obtain ⟨d, h1, h2, h3, _⟩ := h.each k p hk
  obtain ⟨ad, e2, C⟩ := R.at_ h1
  obtain ⟨A', c', e3, R3, _, hm, _⟩ := h3.slice
  have hc := C.cs 0 (dscV d) rfl
  have e4 : k * PR.m + 0 = k := Nat.mul_one k
  rw [e4, e3] at hc
  exact ⟨ad, e2, C.lt, A', c', hc, R3, hm⟩

set_option maxRecDepth 100000 in
set_option maxHeartbeats 6400000 in
theorem pat_any (l : List Wag) (A : Option Addr) (c : Nat) (w : World) (h : RRow WR w A l) (hz : ∀ x ∈ l, x.dst.size ≤ 4611686018427387904) (hv : ∀ x ∈ l, validW x = 0) (h8 : l.length ≤ 8) :
    Calls Try.prog 26 #[.slice A l.length c] w fun e w' => (∃ vo ds, e = .returned vo ∧ Pats w' w.heap.size vo ds (paK l l.length)) ∧ Below w.heap.size w w' := by
  have H := Lib.hid h
  have HSZ := Lib.hid hz
  have HV := Lib.hid hv
  obtain ⟨L, hL⟩ : ∃ n, n = l.length := ⟨_, rfl⟩
  have HL := Lib.hid hL
  rw [← hL] at h8 ⊢
  clear h hL hz hv
  go_enter Try.func26, Try.ntmps26
  go_wp2_with fail
  go_loopw [3, 4] (fun v i wr => ∃ (k : Nat) (ds : List Dsc), k ≤ L ∧ i = .int .i64 k ∧ Hid (Pats wr w.heap.size v ds (paK l k)) ∧ Hid (Below w.heap.size w wr)) (fun _ i _ => L - (intOf i).toNat)
  case atStart => exact ⟨0, [], by omega, rfl, Lib.hid Pats.nil, Lib.hid (Below.refl _ _)⟩
  case round =>
    obtain ⟨k, ds, hk, rfl, P, B⟩ := hrel
    generalize u3 = vo at *
    generalize wr = wo at *
    by_cases hlt : k < L
    · obtain ⟨hx, hd⟩ := wgAt_drop (l := l) (k := k) (by rw [← HL.out]; exact hlt)
      have hxs := HSZ.out _ (List.mem_of_getElem? hx)
      have hxv := HV.out _ (List.mem_of_getElem? hx)
      obtain ⟨ad, rfl, C⟩ := (H.out.below B.out).at_ hx
      obtain ⟨c0, c1, c2, c3, c4, c5, c6, c7⟩ := WSpelt.of C
      obtain ⟨x, hxx⟩ : ∃ x, x = wgAt l k := ⟨_, rfl⟩
      have HX := Lib.hid hxx
      rw [← hxx] at c0 c1 c2 c3 c4 c5 c6 c7 hxs hxv
      have HXS := Lib.hid hxs
      have HLT := Lib.hid hlt
      obtain ⟨ha, -, ol2, ol6⟩ := offW_asc hxv
      obtain ⟨x1, x2, -, -⟩ := validW_len hxv
      have e2 := offR_ok hxv
      clear hx hd C hxx hxs hxv
      go_wp2_with fail
      refine (roff_any x _ HXS.out).mono ?_
      rintro e w1 ⟨v1, rfl, O1, B1⟩
      clear c0 c1 c2 c3 c4 c5 c6 c7
      rw [e2] at O1 ⊢
      have HB := Lib.hid (B.out.trans (B1.mono B.out.size))
      have HP := Lib.hid (P.out.below B1)
      have O1 := Lib.hid O1
      have HVO := Lib.hid (fun g (hg : vo.ownBlock = some g) => P.out.own.block hg)
      have HS1 := Lib.hid B1.size
      obtain ⟨os, hos⟩ : ∃ os, os = offW x := ⟨_, rfl⟩
      have HOS := Lib.hid hos
      simp only [← hos] at O1 ha ol2 ol6
      have OA := Lib.hid ha
      obtain ⟨A1, c1, rfl, -⟩ := OwnI.read O1.out
      obtain ⟨M, hM⟩ : ∃ M, M = os.length := ⟨_, rfl⟩
      have HM := Lib.hid hM
      have HPB := Lib.hid (show ∀ j, j < M → 0 < os.getD j 0 ∧ os.getD j 0 < 4000 from fun j hj => by have := OA.out.pos j (by rw [← hM]; exact hj); omega)
      rw [← hM] at ol2 ol6 ⊢
      clear e2 hos ha hM B1 P B x1 x2
      go_wp2_with fail
      go_loopw [7, 8] (fun v i wr => ∃ j : Nat, j + 1 ≤ M ∧ i = .int .i64 ((j : Int) + 1) ∧ Hid (Own .i64 3 wr w1.heap.size v (dfK os j)) ∧ Hid (Below w1.heap.size w1 wr)) (fun _ i _ => M - (intOf i).toNat)
      case atStart => exact ⟨0, by omega, rfl, Lib.hid Own.nil, Lib.hid (Below.refl _ _)⟩
      case round =>
        obtain ⟨j, hj, rfl, OJ, BJ⟩ := hrel
        have hO1 := O1.out.below BJ.out
        by_cases hlj : j + 1 < M
        · obtain ⟨A2, c2, e2, R2⟩ := OwnI.read hO1
          injection e2 with e2 _ e3
          subst e2; subst e3
          obtain ⟨a1, rfl, -, cj⟩ := R2 j (by rw [← HM.out]; omega)
          obtain ⟨a2, e2, -, ck⟩ := R2 (j + 1) (by rw [← HM.out]; omega)
          injection e2 with e2
          subst e2
          have b1 := HPB.out j (by omega)
          have b2 := HPB.out (j + 1) (by omega)
          have HS := Lib.hid (show dfK os (j + 1) = dfK os j ++ [os.getD (j + 1) 0 - os.getD j 0] from rfl)
          have HLEN := Lib.hid (show (dfK os j).length + 1 ≤ 1000000000 by rw [dfK_len]; omega)
          have HSB := Lib.hid BJ.out.size
          obtain ⟨y0, hy0⟩ : ∃ y, y = os.getD j 0 := ⟨_, rfl⟩
          obtain ⟨y1, hy1⟩ : ∃ y, y = os.getD (j + 1) 0 := ⟨_, rfl⟩
          rw [← hy0, ← hy1] at HS
          rw [← hy0] at cj b1
          rw [← hy1] at ck b2
          have hlj' : (j : Int) + 1 < (M : Int) := by omega
          have j0 : (0 : Int) ≤ (j : Int) := by omega
          have jw : IntKind.i64.wrap (j : Int) = (j : Int) := IntWalk.i64_in _ (by omega)
          have j2 : (0 : Int) ≤ (j : Int) + 1 := by omega
          rw [add_sc] at ck
          have j1 : (j : Int) < (M : Int) := by omega
          obtain ⟨b11, b12⟩ := b1
          obtain ⟨b21, b22⟩ := b2
          have yw : IntKind.i64.wrap (y1 - y0) = y1 - y0 := IntWalk.i64_in _ (by omega)
          clear hy0 hy1 R2 hO1
          go_upto_region 10 with fail
          go_region_law (refine step_appI _ rfl (.tmp 29) (.tmp 40) rfl w1.heap.size _ (dfK os j) rfl (OJ.out.alloc _) (y1 - y0) wr.drew rfl _ rfl 1 rfl HLEN.out (le_allocW (w := wr) HSB.out) ?_; intro v5 w5 A5)
          all_goals
            have B2 := Lib.hid (AppI.belowN (n := 1) A5 BJ.out HSB.out OJ.out)
            have O2 := Lib.hid A5.1
            clear A5 OJ BJ HSB cj ck
            go_wp2_with fail
            go_roundw
            case rel => exact ⟨j + 1, by omega, by go_num, Lib.hid (by rw [HS.out]; exact O2.out), B2⟩
            case measure => simp [intOf] <;> omega
        · have HE := Lib.hid (show dfK os j = dfs (offW (wgAt l k)) by
            rw [← HX.out, ← HOS.out]; unfold dfs; rw [← HM.out, show M - 1 = j by omega])
          rw [HE.out] at OJ
          have hw1 : w.heap.size ≤ w1.heap.size := HB.out.size
          obtain ⟨PA, pc, rfl, RP⟩ := OwnI.read OJ.out
          have HPN := Lib.hid (HP.out.below BJ.out)
          have HOP := Lib.hid (Own.base OJ.out hw1)
          have HAP := Lib.hid (show Apart2 vo (dscV (PA, (dfs (offW (wgAt l k))).length, pc)) from fun g hg e => by
            have h1 := (HVO.out g hg).2
            have h2 := (own_block OJ.out e).1
            have h3 := HS1.out
            omega)
          have HBN := Lib.hid (HB.out.trans (BJ.out.mono hw1))
          have HDL := Lib.hid (show ds.length + 1 ≤ 1000000000 by rw [HPN.out.len, paK_len]; omega)
          have hlj' : ¬ (j : Int) + 1 < (M : Int) := by omega
          have HSN := Lib.hid (show paK l (k + 1) = paK l k ++ [dfs (offW (wgAt l k))] from rfl)
          generalize dfs (offW (wgAt l k)) = pk at *
          clear hlj RP OJ BJ hO1 HP HB hj
          go_wp2_with (first | (at_builtin; refine wpList_appSl _ rfl (.tmp 42) (.tmp 44) rfl w.heap.size _ ds rfl (HPN.out.own.alloc _) (PA, pk.length, pc) wr rfl _ rfl 1 rfl HDL.out (le_allocW HBN.out.size) ?_; intro v5 w5 A5))
          have P5 := Lib.hid (HPN.out.app HOP.out rfl HAP.out A5)
          have B5 := Lib.hid ((HBN.out.alloc HBN.out.size (.cells #[dscV (PA, pk.length, pc)] 22)).grown A5.2.1 (le_allocW HBN.out.size) (fun j hj => (HPN.out.own.block hj).1))
          clear A5
          go_roundw
          case rel => exact ⟨k + 1, ds ++ [(PA, pk.length, pc)], by have := HLT.out; omega, by go_num, Lib.hid (by rw [HSN.out]; exact P5.out), B5⟩
          case measure => have := HLT.out; simp [intOf] <;> omega
    · obtain rfl : k = L := by omega
      clear hlt hk
      go_wp2_with fail
      go_ret
      exact ⟨⟨_, ds, rfl, P.out⟩, B.out⟩
end Go.Proofs.Ytgiodpepjajlmaa
