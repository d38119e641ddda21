/-
  Stage 7: the program's Recognize.
-/
import Derived.Test.YtgiodpepjajlmaaWVal
set_option linter.unusedSimpArgs false
set_option linter.unusedVariables false
namespace Go.Proofs.Ytgiodpepjajlmaa
open Go.RowKit

def RecPost (d : List Int) (ps : List (List Int)) (tol : Int) (w : World) (e : Ending) (w' : World) : Prop :=
  ∃ v, e = .returned (.tuple #[v, .int .i64 (recR d ps tol).2.1, .int .i64 (recR d ps tol).2.2]) ∧ Own .i64 3 w' w.heap.size v (recR d ps tol).1 ∧ Below w.heap.size w w'
theorem RecPost.mk' {d : List Int} {ps : List (List Int)} {tol : Int} {w w' : World} {v : Value} {l : List Int} {n e : Int} (h : recR d ps tol = (l, n, e)) (h2 : Own .i64 3 w' w.heap.size v l) (h3 : Below w.heap.size w w') : RecPost d ps tol w (.returned (.tuple #[v, .int .i64 n, .int .i64 e])) w' := by
  refine ⟨v, ?_, ?_, h3⟩
  · rw [h]
  · rw [h]; exact h2
theorem recR_bad {d : List Int} {ps : List (List Int)} {tol : Int} (h : recErr d ps tol ≠ 0) : recR d ps tol = ([], 0, recErr d ps tol) := by unfold recR; rw [if_neg h]
theorem recR_none {d : List Int} {ps : List (List Int)} {tol : Int} (h : recErr d ps tol = 0) (h2 : (tb ps tol d).getD 0 none = none) : recR d ps tol = ([], 0, 15) := by unfold recR; rw [if_pos h, h2]
theorem recR_some {d : List Int} {ps : List (List Int)} {tol : Int} {z : Int × Nat} (h : recErr d ps tol = 0) (h2 : (tb ps tol d).getD 0 none = some z) : recR d ps tol = ((recPath d ps tol).map Int.ofNat, z.1, 0) := by unfold recR; rw [if_pos h, h2]
theorem results_tmp3 {P : Program} {fn : Func} {a b c : Tmp} (hf : fn.results = #[.tmp a, .tmp b, .tmp c]) (tmps : Array Value) (w : World) (u v x : Value) (h1 : tmps.getD a undef = u) (h2 : tmps.getD b undef = v) (h3 : tmps.getD c undef = x) : (results fn tmps).run P w = .ok (.tuple #[u, v, x]) w := by
  subst h1; subst h2; subst h3; simp [results, hf]

/-- The table while it is filled: places 0 to q - 1 are empty. -/
def partB (ps : List (List Int)) (tol : Int) (d : List Int) (q : Nat) : List Cel3 := List.replicate q none ++ (tb ps tol d).drop q
theorem partB_len {ps : List (List Int)} {tol : Int} {d : List Int} {q : Nat} (h : q ≤ d.length + 2) : (partB ps tol d q).length = d.length + 2 := by
  unfold partB; rw [List.length_append, List.length_replicate, List.length_drop, tb_len]; omega
theorem partB_drop {ps : List (List Int)} {tol : Int} {d : List Int} {m : Nat} : (partB ps tol d (m + 1)).drop m = none :: (tb ps tol d).drop (m + 1) := by
  unfold partB
  rw [List.drop_append_of_le_length (by simp), List.drop_replicate, show m + 1 - m = 1 by omega]
  rfl
theorem partB_set {ps : List (List Int)} {tol : Int} {d : List Int} {m : Nat} (h : m ≤ d.length + 1) : (partB ps tol d (m + 1)).set m ((tb ps tol d).getD m none) = partB ps tol d m := by
  unfold partB
  rw [List.set_append_left _ _ (by simp), List.replicate_succ', List.set_append_right _ _ (by simp), List.length_replicate, Nat.sub_self]
  show List.replicate m none ++ [_] ++ _ = _
  rw [List.append_assoc]
  congr 1
  have hl : m < (tb ps tol d).length := by rw [tb_len]; omega
  rw [List.drop_eq_getElem_cons hl, List.getD_eq_getElem?_getD, List.getElem?_eq_getElem hl]
  rfl
theorem partB_zero {ps : List (List Int)} {tol : Int} {d : List Int} : partB ps tol d 0 = tb ps tol d := rfl
theorem partB_at {ps : List (List Int)} {tol : Int} {d : List Int} {m : Nat} : (partB ps tol d (m + 1))[m]? = some none := by
  unfold partB
  rw [List.getElem?_append_left (by simp), List.getElem?_replicate, if_pos (by omega)]
theorem partB_end {ps : List (List Int)} {tol : Int} {d : List Int} : (List.replicate (d.length + 2) (none : Cel3)).set (d.length + 1) (some (0, 0)) = partB ps tol d (d.length + 1) := by
  have h := partB_set (ps := ps) (tol := tol) (d := d) (m := d.length + 1) (Nat.le_refl _)
  rw [tb_end] at h
  rw [← h]
  congr 1
  unfold partB
  rw [List.drop_eq_nil_of_le (by rw [tb_len]; omega), List.append_nil]
theorem tb_none {ps : List (List Int)} {tol : Int} {d : List Int} (j : Nat) (h : d.length + 2 ≤ j) : (tb ps tol d).getD j none = none := by
  rw [List.getD_eq_getElem?_getD, List.getElem?_eq_none (by rw [tb_len]; exact h)]; rfl
theorem tb_cost {ps : List (List Int)} {tol : Int} {d : List Int} (h : Dvd d ps tol) (j : Nat) (z : Int × Nat) (hz : (tb ps tol d).getD j none = some z) : 0 ≤ z.1 ∧ z.1 ≤ 100000000 ∧ z.2 ≤ 16 := by
  by_cases hj : j ≤ d.length + 1
  · have := tb_bd (ps := ps) (tol := tol) (d := d) (fun p hp => (h.pp p hp).1) h.t0 h.t1 (d.length + 1) j z (by omega) hj hz
    have := h.dl
    have := h.pl
    omega
  · rw [tb_none j (by omega)] at hz; cases hz
theorem Dvd.drop {d : List Int} {ps : List (List Int)} {tol : Int} (h : Dvd d ps tol) (n : Nat) : Dvd (d.drop n) ps tol :=
  ⟨fun z hz => h.dd z (List.mem_of_mem_drop hz), h.pp, h.t0, h.t1, h.pl, by rw [List.length_drop]; have := h.dl; omega⟩
theorem cost_drop {ps : List (List Int)} {tol : Int} {d : List Int} (h : Dvd d ps tol) (n : Nat) : Cost ((tb ps tol d).drop n) := fun j z hz => by
  rw [getD_drop] at hz
  have := tb_cost h _ _ hz
  exact ⟨this.1, this.2.1⟩
theorem set_same {α : Type} {l : List α} {j : Nat} {v : α} (h : l[j]? = some v) : l.set j v = l := by
  apply List.ext_getElem?
  intro i
  rw [List.getElem?_set]
  split
  · rename_i e
    subst e
    split
    · exact h.symm
    · rename_i hl
      rw [List.getElem?_eq_none (by omega)]
  · rfl
/-- The mark of the end. -/
theorem ROwn.mark {T : TypeId} {w : World} {base g n c : Nat} {l : List Cel3} (h : ROwn BR T w base (.slice (some ⟨g, 0, none⟩) n c) l) (hn : n = l.length) (i : Nat) (hi : l[i]? = some none) :
    ROwn BR T (w.setCell ⟨g, i * 3, none⟩ (.bool true)) base (.slice (some ⟨g, 0, none⟩) n c) (l.set i (some (0, 0))) := by
  subst hn
  unfold ROwn
  rw [flatB_set, List.length_set]
  have h0 := (World.ownsRow.stored h (i * 3) (.bool true)).1
  have e1 := flatR_at BR (l := l) hi (j := 1) (u := .int .i64 0) rfl
  have e2 := flatR_at BR (l := l) hi (j := 2) (u := .int .i64 0) rfl
  have e1 : (BR.flat l)[i * 3 + 1]? = some (.int .i64 0) := e1
  have e2 : (BR.flat l)[i * 3 + 2]? = some (.int .i64 0) := e2
  have k1 : ((BR.flat l).set (i * 3) (.bool (exB (some (0, 0))))).set (i * 3 + 1) (.int .i64 (coB (some (0, 0)))) = (BR.flat l).set (i * 3) (.bool true) :=
    set_same (by rw [List.getElem?_set, if_neg (by omega)]; exact e1)
  rw [k1]
  have k2 : ((BR.flat l).set (i * 3) (.bool true)).set (i * 3 + 2) (.int .i64 (piB (some (0, 0)))) = (BR.flat l).set (i * 3) (.bool true) :=
    set_same (by rw [List.getElem?_set, if_neg (by omega)]; exact e2)
  rw [k2]
  exact h0

theorem elemInt : Try.prog.elem 22 = 3 := by kernel_rfl
theorem elemDiv : Try.prog.elem 53 = 55 := by kernel_rfl
theorem sizeOf_of {T : TypeId} {n : Nat} (hi : (Try.prog.info? T).map (·.size) = some n) (W : World) : (sizeOf T).run Try.prog W = .ok n W := by
  cases hq : Try.prog.info? T with
  | none => rw [hq] at hi; cases hi
  | some i =>
    rw [hq] at hi
    have hs : i.size = n := by simpa using hi
    simp [sizeOf, typeInfo, hq, hs]
theorem sizeInt : (Try.prog.info? 3).map (·.size) = some 1 := by kernel_rfl
theorem slice_ints (A : Option Addr) (L c m : Nat) (W : World) (hm : m ≤ L) : (Instr.slice 22 (.slice A L c) (some (.int .i64 (m : Int))) none none).run Try.prog W = .ok (.slice (if c = m then A else A.map (·.add (m * 1))) (L - m) (c - m)) W := by
  rw [run_slice_l W 22 A L c (by rw [elemInt]; exact Try.underlying22) .i64 (m : Int) (by omega) (by omega), elemInt, sizeOf_of sizeInt W]
  simp [Result.andThen, sliced]
theorem slice_divs (g N m : Nat) (W : World) (hm : m < N) : (Instr.slice 53 (.slice (some ⟨g, 0, none⟩) N N) (some (.int .i64 (m : Int))) none none).run Try.prog W = .ok (.slice (some ⟨g, m * 3, none⟩) (N - m) (N - m)) W := by
  rw [run_slice_l W 53 (some ⟨g, 0, none⟩) N N (by rw [elemDiv]; exact Try.underlying53) .i64 (m : Int) (by omega) (by omega), elemDiv, sizeOf_of infoB3 W]
  have hne : ¬ N = m := by omega
  have hs : BR.m = 3 := rfl
  simp [Result.andThen, sliced, hne, hs, add_own]

set_option maxHeartbeats 6400000 in
theorem prec_any (d : List Int) (ps : List (List Int)) (tol : Int) (A A2 : Option Addr) (c c2 : Nat) (w : World) (h : Row .i64 w w.heap.size A d) (hl : d.length ≤ maxLen) (hcap : d.length ≤ c) (h2 : PP w A2 ps) (hl2 : ps.length ≤ maxLen) :
    Calls Try.prog 10 #[.slice A d.length c, .slice A2 ps.length c2, .int .i64 tol] w (RecPost d ps tol w) := by
  obtain ⟨i0, hi, hz0, hz1, hz2⟩ := info_parts infoB
  have HV := Lib.hid (val_any d ps tol A A2 c c2 w h hl h2 hl2)
  have HR0 := Lib.hid h
  have HP0 := Lib.hid h2
  unfold maxLen at hl hl2
  obtain ⟨L, hL⟩ : ∃ n, n = d.length := ⟨_, rfl⟩
  have HL := Lib.hid hL
  obtain ⟨M, hM⟩ : ∃ n, n = ps.length := ⟨_, rfl⟩
  have HM := Lib.hid hM
  rw [← hL] at hl hcap ⊢
  rw [← hM] at hl2 ⊢
  clear h h2 hL hM
  go_enter Try.func10, Try.ntmps10
  go_wp2_with fail
  refine (show Calls _ _ _ _ _ from by have := HV.out; rw [← HL.out, ← HM.out] at this; exact this).mono ?_
  rintro e w' ⟨rfl, rfl⟩
  by_cases he : recErr d ps tol ≠ 0
  · have HF := Lib.hid (recR_bad he)
    have ev : (recErr d ps tol != 0) = true := bne_iff_ne.2 he
    clear he
    go_wp2_with fail
    refine bodyPost_ret (results_tmp3 rfl _ _ _ _ _ rfl rfl rfl) rfl ?_
    exact RecPost.mk' HF.out Own.nil (Below.refl _ _)
  have he := Decidable.of_not_not he
  have HE := Lib.hid he
  have HD := Lib.hid (recErr_zero he)
  have dl := HD.out.dl
  have pl := HD.out.pl
  rw [← HL.out] at dl
  rw [← HM.out] at pl
  rw [he]
  clear he
  have hmk : (Instr.makeSlice 53 (.int .i64 ((L : Int) + 1 + 1)) (.int .i64 ((L : Int) + 1 + 1))).run Try.prog w = .ok (.slice (some ⟨w.heap.size, 0, none⟩) (L + 1 + 1) (L + 1 + 1)) (w.alloc (.cells (madeCells (cellsB none).toArray ((L + 1 + 1) * 3)) 55)) := by
    have hmk := run_make (P := Try.prog) w 53 55 i0 (aggB none) Try.underlying53 hi hz0 .i64 .i64 ((L + 1 + 1 : Nat) : Int) ((L + 1 + 1 : Nat) : Int) (by omega) (Int.le_refl _) (by rw [hz2]; omega) (by omega)
    rw [hz1] at hmk
    simp only [Int.toNat_natCast] at hmk
    have hcl : (aggB none).cells = (cellsB none).toArray := rfl
    rw [hcl] at hmk
    exact hmk
  have HO := Lib.hid (ROwn.madeB (w := w) (base := w.heap.size) (n := L + 1 + 1) (Nat.le_refl _) (by omega))
  obtain ⟨g, hg⟩ : ∃ g, g = w.heap.size := ⟨_, rfl⟩
  have HG := Lib.hid hg
  have HB0 := Lib.hid (show Below w.heap.size w (w.alloc (.cells (madeCells (cellsB none).toArray ((L + 1 + 1) * 3)) 55)) from box1W _ _)
  have HRP := Lib.hid (List.getElem?_replicate_of_lt (a := (none : Cel3)) (n := L + 1 + 1) (i := L + 1) (by omega))
  obtain ⟨⟨c0, -, -⟩, hf⟩ := HO.out.atB (k := L + 1) (x := none) (by simp) HRP.out
  have f0 := hf ((L + 1) * 3)
  replace c0 : (w.alloc (.cells (madeCells (cellsB none).toArray ((L + 1 + 1) * 3)) 55)).cell? ⟨w.heap.size, (L + 1) * 3, none⟩ = some (.bool false) := c0
  obtain ⟨w1, hw1⟩ : ∃ w1, w1 = w.alloc (.cells (madeCells (cellsB none).toArray ((L + 1 + 1) * 3)) 55) := ⟨_, rfl⟩
  rw [← hw1] at hmk HO HB0 c0 f0
  have HM1 := Lib.hid (HO.out.mark (by simp) (L + 1) HRP.out)
  have HPB := Lib.hid (show (List.replicate (L + 1 + 1) (none : Cel3)).set (L + 1) (some (0, 0)) = partB ps tol d (L + 1) by rw [HL.out]; exact partB_end)
  rw [HPB.out] at HM1
  have HB1 := Lib.hid (HB0.out.setCell (p := ⟨w.heap.size, (L + 1) * 3, none⟩) (Nat.le_refl _) (.bool true))
  clear hf hi hz0 hz1 hz2 hw1 HO HB0 HRP HPB
  go_wp2_with fail
  rw [← hg] at HM1 HB1 ⊢
  clear hmk c0 f0 hg
  go_loopw [12] (fun i wr => ∃ q : Nat, q ≤ L + 1 ∧ i = .int .i64 ((q : Int) - 1) ∧ Hid (ROwn BR 55 wr g (.slice (some ⟨g, 0, none⟩) (L + 1 + 1) (L + 1 + 1)) (partB ps tol d q)) ∧ Hid (Below g w wr)) (fun i _ => (intOf i + 1).toNat)
  case atStart => exact ⟨L + 1, Nat.le_refl _, by congr 1; omega, HM1, HB1⟩
  case round =>
    clear HM1 HB1
    obtain ⟨q, hq, rfl, O, B⟩ := hrel
    cases q with
    | succ m =>
      have HW := Lib.hid (show Below w.heap.size w wr by rw [← HG.out]; exact B.out)
      have e1 : ((m + 1 : Nat) : Int) - 1 = (m : Int) := by omega
      rw [e1]
      have hLB := partB_len (ps := ps) (tol := tol) (d := d) (q := m + 1) (by rw [← HL.out]; omega)
      have HLB := Lib.hid hLB
      have HDR := Lib.hid (partB_drop (ps := ps) (tol := tol) (d := d) (m := m))
      have HST := Lib.hid (partB_set (ps := ps) (tol := tol) (d := d) (m := m) (by rw [← HL.out]; omega))
      have HTB := Lib.hid (tb_at ps tol d m (by rw [← HL.out]; omega))
      have hsl : ∀ W, (Instr.slice 22 (.slice A L c) (some (.int .i64 (m : Int))) none none).run Try.prog W = .ok (.slice (if c = m then A else A.map (·.add (m * 1))) (L - m) (c - m)) W := fun W => slice_ints A L c m W (by omega)
      have hsl2 : ∀ W, (Instr.slice 53 (.slice (some ⟨g, 0, none⟩) (L + 1 + 1) (L + 1 + 1)) (some (.int .i64 (m : Int))) none none).run Try.prog W = .ok (.slice (some ⟨g, m * 3, none⟩) (L + 1 + 1 - m) (L + 1 + 1 - m)) W := fun W => slice_divs g (L + 1 + 1) m W (by omega)
      obtain ⟨Am, hAm⟩ : ∃ Am, Am = (if c = m then A else A.map (·.add (m * 1))) := ⟨_, rfl⟩
      have HAM := Lib.hid (show ∀ W, Row .i64 W W.heap.size A d → Row .i64 W W.heap.size Am (d.drop m) from fun W hr => by rw [hAm]; exact hr.cutI m c (by rw [← HL.out]; exact hcap))
      rw [← hAm] at hsl
      have m1 : (m : Int) < (L : Int) + 1 + 1 := by omega
      have m2 : (m : Int) < (L : Int) + 1 := by omega
      have m3 : (m : Int) ≤ (L : Int) := by omega
      have m0 : (0 : Int) ≤ (m : Int) := by omega
      have HWD := Lib.hid (show Below w.heap.size w wr.drew from bdn (n := 1) HW.out)
      have OD := Lib.hid (O.out.drewN 1)
      have OD : Hid (ROwn BR 55 wr.drew g (.slice (some ⟨g, 0, none⟩) (L + 1 + 1) (L + 1 + 1)) (partB ps tol d (m + 1))) := OD
      have HLN := Lib.hid (show L + 1 + 1 = (partB ps tol d (m + 1)).length by rw [HLB.out, ← HL.out])
      have HPN := Lib.hid (partB_at (ps := ps) (tol := tol) (d := d) (m := m))
      have HA1 := Lib.hid (show L - m = (d.drop m).length by rw [List.length_drop, ← HL.out])
      have HA2 := Lib.hid (show L + 1 + 1 - m = (none :: (tb ps tol d).drop (m + 1)).length by rw [List.length_cons, List.length_drop, tb_len, ← HL.out]; omega)
      have HA3 := Lib.hid (HAM.out wr.drew (HR0.out.below HWD.out))
      have HA4 := Lib.hid (HP0.out.below HWD.out)
      have HA5 := Lib.hid (show RRow BR wr.drew (some ⟨g, m * 3, none⟩) (none :: (tb ps tol d).drop (m + 1)) from by
        obtain ⟨A', c', e, R, _⟩ := OD.out.full
        injection e with e _ _
        subst e
        have := R.drop m
        rw [HDR.out] at this
        have e2 : (⟨g, 0, none⟩ : Addr).add (m * BR.m) = ⟨g, m * 3, none⟩ := add_own g _
        rwa [e2] at this)
      have HA6 := Lib.hid (HD.out.drop m)
      have HA7 := Lib.hid (show (d.drop m).length + 2 ≤ (none :: (tb ps tol d).drop (m + 1)).length by rw [← HA2.out, ← HA1.out]; omega)
      have HA8 := Lib.hid (show Cost ((none :: (tb ps tol d).drop (m + 1)).drop 1) from cost_drop HD.out (m + 1))
      have HZ := Lib.hid (show stp (d.drop m) ps tol ((none :: (tb ps tol d).drop (m + 1)).drop 1) = (tb ps tol d).getD m none from HTB.out.symm)
      obtain ⟨x, hx⟩ : ∃ x, x = (tb ps tol d).getD m none := ⟨_, rfl⟩
      have HX := Lib.hid hx
      have HDV := Lib.hid (show Calls Try.prog 30 #[.slice Am (L - m) (c - m), .slice A2 M c2, .int .i64 tol, .slice (some ⟨g, m * 3, none⟩) (L + 1 + 1 - m) (L + 1 + 1 - m)] wr.drew (fun e w' => e = .returned (.agg #[.bool (exB x), .int .i64 (coB x), .int .i64 (piB x)]) ∧ Below wr.drew.heap.size wr.drew w') from by
        have := div_any (d.drop m) ps tol (none :: (tb ps tol d).drop (m + 1)) Am A2 (some ⟨g, m * 3, none⟩) (L - m) (c - m) c2 (L + 1 + 1 - m) (L + 1 + 1 - m) wr.drew HA1.out HA2.out HA3.out HA4.out HA5.out HA6.out HA7.out HA8.out
        rw [HZ.out, ← hx, ← HM.out] at this
        refine this.mono fun e w' h => ⟨?_, h.2⟩
        rw [h.1]
        show Ending.returned (.agg (cellsB x).toArray) = _
        rw [cellsB_eq])
      clear HA1 HA2 HA3 HA4 HA5 HA6 HA7 HA8 HZ hx
      clear hAm hLB e1
      go_upto_region 10 with fail
      go_region_law (first
        | (go_simp; go_at_call 30; refine HDV.out.mono ?_; rintro e w2 ⟨rfl, B2⟩; have HB2 := Lib.hid B2; obtain ⟨⟨c0, c1, c3⟩, hf⟩ := (OD.out.below B2).atB HLN.out HPN.out; have f0 := hf (m * 3); have f1 := hf (m * 3 + 1); have f2 := hf (m * 3 + 2); replace c0 : w2.cell? ⟨g, m * 3, none⟩ = some (.bool false) := c0; replace c1 : w2.cell? ⟨g, m * 3 + 1, none⟩ = some (.int .i64 0) := c1; replace c3 : w2.cell? ⟨g, m * 3 + 2, none⟩ = some (.int .i64 0) := c3; clear hf B2))
      all_goals
        have HO2 := Lib.hid (((OD.out.below HB2.out).putB HLN.out m x))
        have hgs : g ≤ wr.drew.heap.size := (by have := (O.out.block (g := g) rfl).2; show g ≤ wr.heap.size; omega)
        have HBB := Lib.hid (below_putB ((B.out.trans (bdn (n := 1) (Below.refl g wr))).trans (HB2.out.mono hgs)) (g := g) (Nat.le_refl _) m x)
        clear hgs OD O B HW HWD HB2 HDV HAM c0 c1 c3 f0 f1 f2 hsl hsl2
        go_wp2_with fail
        go_roundw
        case rel => exact ⟨m, by omega, by simp, Lib.hid (by rw [← HST.out, ← HX.out]; exact HO2.out), HBB⟩
        case measure => simp [intOf] <;> omega
    | zero =>
      have HT : Hid (ROwn BR 55 wr g (.slice (some ⟨g, 0, none⟩) (L + 1 + 1) (L + 1 + 1)) (tb ps tol d)) := O
      have HLT := Lib.hid (show L + 1 + 1 = (tb ps tol d).length by rw [tb_len, HL.out])
      obtain ⟨⟨c0, c1, -⟩, -⟩ := HT.out.atB HLT.out (getD_ex none (k := 0) (by rw [← HLT.out]; omega))
      have HB := Lib.hid (show Below w.heap.size w wr by rw [← HG.out]; exact B.out)
      have e1 : ((0 : Nat) : Int) - 1 = -1 := rfl
      have zz : 0 * 3 = 0 := rfl
      rw [zz] at c0 c1
      rw [e1]
      cases hx : (tb ps tol d).getD 0 none with
      | none =>
        have HF := Lib.hid (recR_none HE.out hx)
        rw [hx] at c0
        replace c0 : wr.cell? ⟨g, 0, none⟩ = some (.bool false) := c0
        clear c1 hx e1 zz
        go_wp2_with fail
        refine bodyPost_ret (results_tmp3 rfl _ _ _ _ _ rfl rfl rfl) rfl ?_
        exact RecPost.mk' HF.out Own.nil HB.out
      | some z =>
        have HF := Lib.hid (recR_some HE.out hx)
        have HXZ := Lib.hid hx
        rw [hx] at c0 c1
        replace c0 : wr.cell? ⟨g, 0, none⟩ = some (.bool true) := c0
        replace c1 : wr.cell? ⟨g, 1, none⟩ = some (.int .i64 z.1) := c1
        generalize wr = wo at *
        clear c1 hx e1 zz O B hq
        go_wp2_with fail
        clear c0
        go_loopw [13, 14] (fun v i wr => ∃ (k : Nat) (acc : List Nat), i = .int .i64 (k : Int) ∧ k ≤ L + 1 ∧ acc.length ≤ k ∧ Hid (acc ++ pth ps (tb ps tol d) (L + 1) (L + 1) k = recPath d ps tol) ∧ Hid (∃ z, (tb ps tol d).getD k none = some z) ∧ Hid (Own .i64 3 wr w.heap.size v (acc.map Int.ofNat)) ∧ Hid (Gr wo none v wr)) (fun _ i _ => L + 1 - (intOf i).toNat)
        case atStart => exact ⟨0, [], rfl, by omega, by simp, Lib.hid (by rw [HL.out]; rfl), Lib.hid ⟨z, HXZ.out⟩, Lib.hid Own.nil, Lib.hid (Gr.nil wo none)⟩
        case round =>
          obtain ⟨k, acc, rfl, hk, hacc, HPT, HZZ, O, G⟩ := hrel
          have HT2 := Lib.hid (HT.out.kept G.out.gr (Or.inr (by simp [Value.ownBlock])))
          have HBR := Lib.hid (G.out.base HB.out HB.out.size (fun g hg => by cases hg))
          by_cases hlt : k < L + 1
          · obtain ⟨x, hx⟩ := HZZ.out
            obtain ⟨⟨-, -, c2'⟩, -⟩ := HT2.out.atB HLT.out (show (tb ps tol d)[k]? = some (some x) by have := getD_ex (l := tb ps tol d) none (k := k) (by rw [← HLT.out]; omega); rw [hx] at this; exact this)
            replace c2' : wr.cell? ⟨g, k * 3 + 2, none⟩ = some (.int .i64 (x.2 : Int)) := c2'
            obtain ⟨x1, cc, y, x2, x3, x4, x5⟩ := tb_some (by rw [← HL.out]; omega) hx
            have HST := Lib.hid (pth_step (ps := ps) (t := tb ps tol d) (n := L + 1) hlt hx)
            have HNX := Lib.hid x3
            have HPP := Lib.hid (HP0.out.below HBR.out)
            obtain ⟨ad2, rfl, a1, cp, c5, hr, hm⟩ := HPP.out.at_ (k := x.2) x1
            obtain ⟨p2, hp2⟩ : ∃ p, p = x.2 := ⟨_, rfl⟩
            rw [← hp2] at c2' x1 x5 HST HNX c5
            obtain ⟨q, hq⟩ : ∃ q, q = (ps.getD p2 []).length := ⟨_, rfl⟩
            have q5 := (HD.out.pp _ (getD_memL (k := p2) (z := []) x1)).1
            rw [← hq] at x5 HST HNX c5 q5
            rw [← HL.out] at x5
            have x1' := x1
            rw [← HM.out] at x1
            have hps : (p2 : Int) < (M : Int) := by omega
            have hk1 : (k : Int) < (L : Int) + 1 := by omega
            have hk2 : (k : Int) < (L : Int) + 1 + 1 := by omega
            have HLEN := Lib.hid (show (acc.map Int.ofNat).length + 1 ≤ 1000000000 by rw [List.length_map]; omega)
            have HSB := Lib.hid HBR.out.size
            have hblk : (ad2.add p2).block < w.heap.size := by rw [add_block]; exact HP0.out.blk x1'
            have HLP := Lib.hid (fun W (hW : Below w.heap.size w W) => (show W.cell? (ad2.add p2) = some (.slice a1 q cp) from ((hW.cell hblk).trans (HBR.out.cell hblk).symm).trans c5))
            clear hx x2 x3 x4 hr hm hp2 hq hblk x1'
            go_wp2_with (first
              | (at_builtin; refine wpList_appI _ rfl (.tmp 64) (.tmp 66) rfl w.heap.size _ (acc.map Int.ofNat) rfl (O.out.alloc _) (p2 : Int) wr rfl _ rfl 1 rfl HLEN.out (le_allocW HSB.out) ?_; intro v5 w5 A5; have G2 := Lib.hid ((G.out.alloc _).app A5); have O2 := Lib.hid A5.1; have cq := HLP.out w5 (G2.out.base HB.out HB.out.size (fun g hg => by cases hg)); clear A5 c5 c2')
              | (go_at_call 31; refine (axof_any a1 q cp _ (by omega)).mono ?_; rintro e w' ⟨rfl, rfl⟩))
            clear HSB HPP HBR HT2 O G
            go_roundw
            case rel => exact ⟨k + (q + 1), acc ++ [p2], by go_num, by omega, by rw [List.length_append]; simp; omega, Lib.hid (by rw [List.append_assoc, ← HPT.out, HST.out, Nat.add_assoc]; rfl), Lib.hid ⟨y, by rw [← HNX.out]; congr 1; omega⟩, Lib.hid (by rw [List.map_append]; exact O2.out), G2⟩
            case measure => simp [intOf] <;> omega
          · obtain rfl : k = L + 1 := by omega
            have HE2 := Lib.hid (show acc = recPath d ps tol by have := HPT.out; rw [pth_end (Nat.le_refl _), List.append_nil] at this; exact this)
            obtain ⟨⟨-, c1, -⟩, -⟩ := HT2.out.atB HLT.out (show (tb ps tol d)[0]? = some (some z) by have := getD_ex (l := tb ps tol d) none (k := 0) (by rw [← HLT.out]; omega); rw [HXZ.out] at this; exact this)
            replace c1 : wr.cell? ⟨g, 1, none⟩ = some (.int .i64 z.1) := c1
            have hk1 : ¬ ((L + 1 : Nat) : Int) < (L : Int) + 1 := by omega
            rw [HE2.out] at O
            clear hlt hk hacc
            go_wp2_with fail
            go_quiet (fail)
            go_wp2_with fail
            refine bodyPost_ret (results_tmp3 rfl _ _ _ _ _ rfl rfl rfl) rfl ?_
            exact RecPost.mk' HF.out (O.out.drewN _) (bdn HBR.out)
end Go.Proofs.Ytgiodpepjajlmaa
