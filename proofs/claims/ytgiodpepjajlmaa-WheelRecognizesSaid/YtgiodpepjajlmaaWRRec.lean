/-
  Stage 7: the reference's Recognize (its first half: what it refuses).
-/
import Derived.Test.YtgiodpepjajlmaaWRec
import Derived.Test.YtgiodpepjajlmaaWFit
import Derived.Test.YtgiodpepjajlmaaWCheap
set_option linter.unusedSimpArgs false
set_option linter.unusedVariables false
namespace Go.Proofs.Ytgiodpepjajlmaa
open Go.RowKit

theorem recR_no {d : List Int} {ps : List (List Int)} {tol e : Int} (h : recErr d ps tol = e) (he : e ≠ 0) : recR d ps tol = ([], 0, e) := by rw [← h]; exact recR_bad (by rw [h]; exact he)
/-- The distances and the first k - 1 patterns are within their range. -/
def okF (d : List Int) (ps : List (List Int)) (k : Nat) : Bool := ((d :: ps).take k).all okD
theorem okF_zero {d : List Int} {ps : List (List Int)} : okF d ps 0 = true := rfl
theorem okF_one {d : List Int} {ps : List (List Int)} (h : okD d = true) : okF d ps 1 = true := by unfold okF; simp [h]
theorem okF_snoc {d : List Int} {ps : List (List Int)} {k : Nat} (h : k < ps.length) (h1 : okF d ps (k + 1) = true) (h2 : okD (ps.getD k []) = true) : okF d ps (k + 1 + 1) = true := by
  unfold okF at h1 ⊢
  have h3 : (d :: ps).take (k + 1 + 1) = d :: ps.take (k + 1) := rfl
  have h4 : (d :: ps).take (k + 1) = d :: ps.take k := rfl
  rw [h4, List.all_cons] at h1
  rw [h3, List.all_cons, List.take_succ_eq_append_getElem h, List.all_append]
  rw [List.getD_eq_getElem?_getD, List.getElem?_eq_getElem h] at h2
  simp only [Option.getD_some] at h2
  simp only [Bool.and_eq_true] at h1
  simp [h1.1, h2]
  exact List.all_eq_true.1 h1.2
theorem recErr_two {d : List Int} {ps : List (List Int)} {tol : Int} (h1 : ¬ 768 < d.length) (h2 : ¬ 16 < ps.length) (h3 : lngK ps ps.length = false) (h : okD d = false ∨ ¬ (0 ≤ tol ∧ tol ≤ 10000) ∨ ∃ k, k < ps.length ∧ okD (ps.getD k []) = false) : recErr d ps tol = 2 := by
  unfold lngK at h3
  rw [List.take_length] at h3
  unfold recErr
  rw [if_neg (fun g => by rcases g with g | g | g; exact h1 g; exact h2 g; rw [h3] at g; cases g), if_neg]
  rintro ⟨g1, g2, g3⟩
  rcases h with h | h | ⟨k, hk, h⟩
  · rw [g1] at h; cases h
  · exact h g2
  · have := List.all_eq_true.1 g3 _ (getD_memL (z := []) hk)
    rw [this] at h; cases h
theorem recErr_good {d : List Int} {ps : List (List Int)} {tol : Int} (h1 : ¬ 768 < d.length) (h2 : ¬ 16 < ps.length) (h3 : lngK ps ps.length = false) (h4 : 0 ≤ tol ∧ tol ≤ 10000) (h : okF d ps (ps.length + 1) = true) : recErr d ps tol = 0 := by
  unfold lngK at h3
  rw [List.take_length] at h3
  unfold recErr
  have h5 : (d :: ps).take (ps.length + 1) = d :: ps := List.take_length (l := d :: ps)
  unfold okF at h
  rw [h5, List.all_cons, Bool.and_eq_true] at h
  rw [if_neg (fun g => by rcases g with g | g | g; exact h1 g; exact h2 g; rw [h3] at g; cases g), if_pos ⟨h.1, h4, h.2⟩]

theorem make_intsR (w : World) (X : Nat) (hX : X ≤ 1000) : (Instr.makeSlice 22 (.int .i64 (X : Int)) (.int .i64 (X : Int))).run Try.prog w = .ok (.slice (some ⟨w.heap.size, 0, none⟩) X X) (w.alloc (.cells ((List.replicate X 0).map (Value.int .i64)).toArray 3)) := by
  obtain ⟨i0, hi, hz0, hz1, hz2⟩ := info_parts infoIntW
  have h := run_make (P := Try.prog) w 22 3 i0 (.int .i64 0) Try.underlying22 hi hz0 .i64 .i64 (X : Int) (X : Int) (by omega) (Int.le_refl _) (by rw [hz2]; omega) (by omega)
  rw [hz1, Int.toNat_natCast] at h
  have e : madeCells (Value.int .i64 0).cells (X * 1) = ((List.replicate X 0).map (Value.int .i64)).toArray := by
    rw [Nat.mul_one, List.map_replicate]
    apply Array.ext'
    refine List.ext_getElem? fun j => ?_
    unfold madeCells
    by_cases h : j < X
    · simp [h, Nat.mod_one, Value.cells]
    · simp [h]
  rw [e] at h
  exact h
/-- The two tables say what the table of divisions says, from place q on. -/
def TabOk (bs qs : List Int) (T : List Cel3) (q : Nat) : Prop := ∀ j, q ≤ j → j < T.length → bs.getD j 0 = chV (T.getD j none) ∧ ∀ z, T.getD j none = some z → qs.getD j 0 = (z.2 : Int)
/-- Two lists of the call's own, apart. -/
structure Two (w0 wx : World) (gb gp n : Nat) (bs qs : List Int) : Prop where
  lb : bs.length = n
  lq : qs.length = n
  ob : Own .i64 3 wx w0.heap.size (.slice (some ⟨gb, 0, none⟩) n n) bs
  oq : Own .i64 3 wx w0.heap.size (.slice (some ⟨gp, 0, none⟩) n n) qs
  bl : Below w0.heap.size w0 wx
section
variable {w0 wx : World} {gb gp n : Nat} {bs qs : List Int}
theorem Two.drewN (h : Two w0 wx gb gp n bs qs) (m : Nat) : Two w0 (wx.drewN m) gb gp n bs qs := ⟨h.lb, h.lq, h.ob.drewN m, h.oq.drewN m, bdn h.bl⟩
theorem Two.setB (h : Two w0 wx gb gp n bs qs) (hne : gb ≠ gp) (hg : w0.heap.size ≤ gb) (j : Nat) (x : Int) : Two w0 (wx.setCell ⟨gb, j, none⟩ (.int .i64 x)) gb gp n (bs.set j x) qs :=
  ⟨by rw [List.length_set]; exact h.lb, h.lq, h.ob.store h.lb.symm j x, h.oq.kept (World.ownsRow.stored (by have := h.ob; unfold Own at this; rwa [h.lb] at this) j (.int .i64 x)).2 (Or.inr (fun e => hne (by simpa [Value.ownBlock] using e.symm))), h.bl.setCell hg _⟩
theorem Two.setQ (h : Two w0 wx gb gp n bs qs) (hne : gb ≠ gp) (hg : w0.heap.size ≤ gp) (j : Nat) (x : Int) : Two w0 (wx.setCell ⟨gp, j, none⟩ (.int .i64 x)) gb gp n bs (qs.set j x) :=
  ⟨h.lb, by rw [List.length_set]; exact h.lq, h.ob.kept (World.ownsRow.stored (by have := h.oq; unfold Own at this; rwa [h.lq] at this) j (.int .i64 x)).2 (Or.inr (fun e => hne (by simpa [Value.ownBlock] using e))), h.oq.store h.lq.symm j x, h.bl.setCell hg _⟩
theorem Two.made (w : World) (n : Nat) (hn : n ≤ 1000) (o : Obj) (ho : o = .cells ((List.replicate n 0).map (Value.int .i64)).toArray 3) (wd : World) (hb : Below w.heap.size w wd) :
    Two w ((wd.alloc o).alloc o) wd.heap.size (wd.heap.size + 1) n (List.replicate n 0) (List.replicate n 0) ∧ Two w ((wd.alloc o).alloc o) (wd.heap.size + 1) wd.heap.size n (List.replicate n 0) (List.replicate n 0) := by
  subst ho
  have hB := (hb.trans ((box1W wd (.cells ((List.replicate n 0).map (Value.int .i64)).toArray 3)).mono hb.size)).trans ((box1W (wd.alloc (.cells ((List.replicate n 0).map (Value.int .i64)).toArray 3)) (.cells ((List.replicate n 0).map (Value.int .i64)).toArray 3)).mono (by simp; have := hb.size; omega))
  have O1 := (Own.laid (k := .i64) (T := 3) wd w.heap.size hb.size (List.replicate n 0) n (by simp) (by omega)).alloc (.cells ((List.replicate n 0).map (Value.int .i64)).toArray 3)
  have O2 := Own.laid (k := .i64) (T := 3) (wd.alloc (.cells ((List.replicate n 0).map (Value.int .i64)).toArray 3)) w.heap.size (by simp; have := hb.size; omega) (List.replicate n 0) n (by simp) (by omega)
  have e : (wd.alloc (.cells ((List.replicate n 0).map (Value.int .i64)).toArray 3)).heap.size = wd.heap.size + 1 := by simp
  rw [e] at O2
  exact ⟨⟨by simp, by simp, O1, O2, hB⟩, ⟨by simp, by simp, O2, O1, hB⟩⟩
end
theorem tab_start {n : Nat} {T : List Cel3} {l : Nat} (hl : T.length = l + 2) (hn : n = l + 2) (he : T.getD (l + 1) none = some (0, 0)) : TabOk (List.replicate n 0) (List.replicate n 0) T (l + 1) := fun j h1 h2 => by
  obtain rfl : j = l + 1 := by omega
  rw [he, List.getD_eq_getElem?_getD, List.getElem?_replicate, if_pos (by omega)]
  exact ⟨rfl, fun z hz => by cases hz; rfl⟩

theorem TabOk.setB {bs qs : List Int} {T : List Cel3} {m : Nat} (h : TabOk bs qs T (m + 1)) (x : Int) : TabOk (bs.set m x) qs T (m + 1) := fun j h1 h2 => by
  have := h j h1 h2
  rwa [show (bs.set m x).getD j 0 = bs.getD j 0 by rw [List.getD_eq_getElem?_getD, List.getElem?_set, if_neg (by omega), ← List.getD_eq_getElem?_getD]]
theorem TabOk.setQ {bs qs : List Int} {T : List Cel3} {m : Nat} (h : TabOk bs qs T (m + 1)) (x : Int) : TabOk bs (qs.set m x) T (m + 1) := fun j h1 h2 => by
  have := h j h1 h2
  rwa [show (qs.set m x).getD j 0 = qs.getD j 0 by rw [List.getD_eq_getElem?_getD, List.getElem?_set, if_neg (by omega), ← List.getD_eq_getElem?_getD]]
/-- The tables while place m is tried, k patterns behind it. -/
def Inn (d : List Int) (ps : List (List Int)) (tol : Int) (m k : Nat) (w wr : World) (gb gp n : Nat) : Prop := ∃ bs qs, Two w wr gb gp n bs qs ∧ TabOk bs qs (tb ps tol d) (m + 1) ∧ bs.getD m 0 = chV (stK (d.drop m) ps tol ((tb ps tol d).drop (m + 1)) k) ∧ ∀ z, stK (d.drop m) ps tol ((tb ps tol d).drop (m + 1)) k = some z → qs.getD m 0 = (z.2 : Int)
theorem Inn.start {d : List Int} {ps : List (List Int)} {tol : Int} {m : Nat} {w wr : World} {gb gp n : Nat} {bs qs : List Int} (h : Two w wr gb gp n bs qs) (ht : TabOk bs qs (tb ps tol d) (m + 1)) (hm : m < n) (hne : gb ≠ gp) (hg : w.heap.size ≤ gb) : Inn d ps tol m 0 w (wr.setCell ⟨gb, m, none⟩ (.int .i64 (-1))) gb gp n :=
  ⟨_, _, h.setB hne hg m (-1), ht.setB (-1), by rw [getD_set _ _ _ _ (by rw [h.lb]; exact hm), if_pos rfl]; rfl, fun z hz => by cases hz⟩
theorem Inn.drewN {d : List Int} {ps : List (List Int)} {tol : Int} {m k : Nat} {w wr : World} {gb gp n : Nat} (h : Inn d ps tol m k w wr gb gp n) (j : Nat) : Inn d ps tol m k w (wr.drewN j) gb gp n := by
  obtain ⟨bs, qs, h1, h2, h3, h4⟩ := h
  exact ⟨bs, qs, h1.drewN j, h2, h3, h4⟩
theorem Inn.same {d : List Int} {ps : List (List Int)} {tol : Int} {m k : Nat} {w wr : World} {gb gp n : Nat} (h : Inn d ps tol m k w wr gb gp n) (e : stK (d.drop m) ps tol ((tb ps tol d).drop (m + 1)) (k + 1) = stK (d.drop m) ps tol ((tb ps tol d).drop (m + 1)) k) : Inn d ps tol m (k + 1) w wr gb gp n := by
  unfold Inn at *
  rw [e]; exact h
theorem Inn.put {d : List Int} {ps : List (List Int)} {tol : Int} {m k : Nat} {w wr : World} {gb gp n : Nat} {bs qs : List Int} (h : Two w wr gb gp n bs qs) (ht : TabOk bs qs (tb ps tol d) (m + 1)) (hm : m < n) (hne : gb ≠ gp) (hg : w.heap.size ≤ gb) (hg2 : w.heap.size ≤ gp) (x : Int) (e : stK (d.drop m) ps tol ((tb ps tol d).drop (m + 1)) (k + 1) = some (x, k)) : Inn d ps tol m (k + 1) w ((wr.setCell ⟨gb, m, none⟩ (.int .i64 x)).setCell ⟨gp, m, none⟩ (.int .i64 (k : Int))) gb gp n :=
  ⟨_, _, (h.setB hne hg m x).setQ hne hg2 m k, (ht.setB x).setQ k, by rw [getD_set _ _ _ _ (by rw [h.lb]; exact hm), if_pos rfl, e]; rfl, fun z hz => by rw [e] at hz; cases hz; rw [getD_set _ _ _ _ (by rw [h.lq]; exact hm), if_pos rfl]⟩
theorem Inn.done {d : List Int} {ps : List (List Int)} {tol : Int} {m : Nat} {w wr : World} {gb gp n : Nat} (h : Inn d ps tol m ps.length w wr gb gp n) (hm : m ≤ d.length) : ∃ bs qs, Two w wr gb gp n bs qs ∧ TabOk bs qs (tb ps tol d) m := by
  obtain ⟨bs, qs, h1, h2, h3, h4⟩ := h
  refine ⟨bs, qs, h1, fun j a b => ?_⟩
  by_cases e : j = m
  · subst e
    rw [tb_at ps tol d j hm]
    exact ⟨h3, h4⟩
  · exact h2 j (by omega) b

theorem stK_low {d : List Int} {ps : List (List Int)} {tol : Int} {T : List Cel3} (hT : Cost T) {k : Nat} {z : Int × Nat} (h0 : 0 ≤ tol) (h1 : tol ≤ 10000) (hp : ∀ p ∈ ps, p.length ≤ 5) (hk : k ≤ ps.length) (h : stK d ps tol T k = some z) : 0 ≤ z.1 ∧ z.1 ≤ 100050000 := by
  obtain ⟨g, c, x, h2, h3, h4⟩ := stK_some h
  have h5 := cmpV_bd h2
  have h6 := hT _ _ h3
  have h7 : (ps.getD z.2 []).length ≤ 5 := hp _ (getD_memL (by omega))
  have h8 : tol * ((ps.getD z.2 []).length : Int) ≤ 10000 * 5 := Int.mul_le_mul h1 (by omega) (by omega) (by omega)
  omega

set_option maxRecDepth 100000 in
set_option maxHeartbeats 6400000 in
theorem rrec_any (d : List Int) (ps : List (List Int)) (tol : Int) (A A2 : Option Addr) (c c2 : Nat) (w : World) (h : Row .i64 w w.heap.size A d) (hl : d.length ≤ maxLen) (hcap : d.length ≤ c) (h2 : PP w A2 ps) (hl2 : ps.length ≤ maxLen) :
    Calls Try.prog 41 #[.slice A d.length c, .slice A2 ps.length c2, .int .i64 tol] w (RecPost d ps tol w) := by
  have HR0 := Lib.hid h
  have HP0 := Lib.hid h2
  unfold maxLen at hl hl2
  obtain ⟨L, hL⟩ : ∃ n, n = d.length := ⟨_, rfl⟩
  have HL := Lib.hid hL
  obtain ⟨M, hM⟩ : ∃ n, n = ps.length := ⟨_, rfl⟩
  have HM := Lib.hid hM
  rw [← hL] at hl hcap ⊢
  rw [← hM] at hl2 ⊢
  clear h h2 hL hM
  by_cases t1 : 768 < L
  · have HF := Lib.hid (recR_no (recErr_big (d := d) (ps := ps) (tol := tol) (Or.inl (by rw [← HL.out]; exact t1))) (by decide))
    have g1 : (768 : Int) < (L : Int) := by omega
    go_enter Try.func41, Try.ntmps41
    go_wp2_with fail
    refine bodyPost_ret (results_tmp3 rfl _ _ _ _ _ rfl rfl rfl) rfl ?_
    exact RecPost.mk' HF.out Own.nil (Below.refl _ _)
  have g1 : ¬ (768 : Int) < (L : Int) := by omega
  by_cases t2 : 16 < M
  · have HF := Lib.hid (recR_no (recErr_big (d := d) (ps := ps) (tol := tol) (Or.inr (Or.inl (by rw [← HM.out]; exact t2)))) (by decide))
    have g2 : (16 : Int) < (M : Int) := by omega
    go_enter Try.func41, Try.ntmps41
    go_wp2_with fail
    refine bodyPost_ret (results_tmp3 rfl _ _ _ _ _ rfl rfl rfl) rfl ?_
    exact RecPost.mk' HF.out Own.nil (Below.refl _ _)
  have g2 : ¬ (16 : Int) < (M : Int) := by omega
  have HT1 := Lib.hid (show ¬ 768 < d.length by rw [← HL.out]; exact t1)
  have HT2 := Lib.hid (show ¬ 16 < ps.length by rw [← HM.out]; exact t2)
  go_enter Try.func41, Try.ntmps41
  go_wp2_with fail
  go_loop [9] (fun i => ∃ k : Nat, k ≤ M ∧ i = .int .i64 k ∧ Hid (lngK ps k = false)) (fun i => M - (intOf i).toNat)
  case atStart => exact ⟨0, by omega, rfl, Lib.hid rfl⟩
  case round =>
    obtain ⟨k, hk, rfl, G⟩ := hrel
    by_cases hlt : k < M
    · obtain ⟨ad, rfl, a1, cp, cc, hr, hm⟩ := HP0.out.at_ (k := k) (by rw [← HM.out]; exact hlt)
      have HLN := Lib.hid (lngK_snoc (ps := ps) (k := k) (by rw [← HM.out]; exact hlt))
      obtain ⟨q, hq⟩ : ∃ q, q = (ps.getD k []).length := ⟨_, rfl⟩
      rw [← hq] at cc HLN hm
      unfold maxLen at hm
      have HQ := Lib.hid hq
      clear hr hq
      by_cases t5 : 5 < q
      · have HF := Lib.hid (recR_no (recErr_big (d := d) (ps := ps) (tol := tol) (Or.inr (Or.inr (lngK_some (k := k) (by rw [← HM.out]; exact hlt) (by rw [← HQ.out]; exact t5))))) (by decide))
        have g5 : (5 : Int) < (q : Int) := by omega
        go_wp2_with fail
        refine bodyPost_ret (results_tmp3 rfl _ _ _ _ _ rfl rfl rfl) rfl ?_
        exact RecPost.mk' HF.out Own.nil (Below.refl _ _)
      · have g5 : ¬ (5 : Int) < (q : Int) := by omega
        have HL2 := Lib.hid (show lngK ps (k + 1) = false by rw [HLN.out, G.out, decide_eq_false t5]; rfl)
        go_wp2_with fail
        go_round
        case rel => exact ⟨k + 1, by omega, by go_num, HL2⟩
        case measure => simp [intOf] <;> omega
    · obtain rfl : k = M := by omega
      have HG := Lib.hid (show lngK ps ps.length = false by rw [← HM.out]; exact G.out)
      clear G
      by_cases u1 : tol < 0
      · have HF := Lib.hid (recR_no (recErr_two (tol := tol) (d := d) HT1.out HT2.out HG.out (Or.inr (Or.inl (by omega)))) (by decide))
        go_wp2_with fail
        refine bodyPost_ret (results_tmp3 rfl _ _ _ _ _ rfl rfl rfl) rfl ?_
        exact RecPost.mk' HF.out Own.nil (Below.refl _ _)
      by_cases u2 : 10000 < tol
      · have HF := Lib.hid (recR_no (recErr_two (tol := tol) (d := d) HT1.out HT2.out HG.out (Or.inr (Or.inl (by omega)))) (by decide))
        go_wp2_with fail
        refine bodyPost_ret (results_tmp3 rfl _ _ _ _ _ rfl rfl rfl) rfl ?_
        exact RecPost.mk' HF.out Own.nil (Below.refl _ _)
      have HBAD := Lib.hid (show (okD d = false ∨ ∃ k, k < ps.length ∧ okD (ps.getD k []) = false) → recR d ps tol = ([], 0, 2) from fun g => recR_no (recErr_two (tol := tol) (d := d) HT1.out HT2.out HG.out (g.elim Or.inl fun g => Or.inr (Or.inr g))) (by decide))
      have HGOOD := Lib.hid (show okF d ps (ps.length + 1) = true → recErr d ps tol = 0 from recErr_good HT1.out HT2.out HG.out ⟨by omega, by omega⟩)
      go_upto_region 10 with fail
      go_wp2_with fail
      go_loop [10] (fun i => ∃ k' : Nat, k' ≤ k + 1 ∧ i = .int .i64 ((k' : Int) - 1) ∧ Hid (okF d ps k' = true)) (fun i => k + 1 - (intOf i + 1).toNat)
      case atStart => exact ⟨0, by omega, rfl, Lib.hid okF_zero⟩
      case round =>
        obtain ⟨k', hk', rfl, G⟩ := hrel
        by_cases hlt : k' ≤ k
        · have HN := Lib.hid (show k' < ps.length → okD (ps.getD k' []) = true → okF d ps (k' + 1) = true → okF d ps (k' + 1 + 1) = true from fun a b c => okF_snoc a c b)
          obtain ⟨I, hI⟩ : ∃ I, I = (k' : Int) - 1 := ⟨_, rfl⟩
          have HI := Lib.hid hI
          have i1 : I < (k : Int) := by omega
          have i2 : -1 ≤ I := by omega
          rw [← hI]
          clear hI
          go_upto_if 56 with fail
          go_cut [11] (fun v wc => wc = w ∧ ∃ (q : List Int) (a : Option Addr) (cc n : Nat), v = .slice a n cc ∧ n ≤ 9223372036854775807 ∧ Hid (n = q.length) ∧ Hid (Row .i64 w w.heap.size a q) ∧ Hid (okD q = false → recR d ps tol = ([], 0, 2)) ∧ Hid (okD q = true → okF d ps (k' + 1) = true))
          case first =>
            cases k' with
            | zero =>
              have hI : I = -1 := by have := HI.out; omega
              subst hI
              go_wp2_with fail
              go_meet
              case rel => exact ⟨rfl, d, A, c, L, rfl, hl, HL, HR0, Lib.hid fun g => HBAD.out (Or.inl g), Lib.hid fun g => okF_one g⟩
            | succ m =>
              have hI : I = (m : Int) := by have := HI.out; omega
              subst hI
              have i3 : (0 : Int) ≤ (m : Int) := by omega
              have hmM : m < ps.length := by rw [← HM.out]; omega
              obtain ⟨ad, rfl, a1, cp, cc, hr, hm⟩ := HP0.out.at_ (k := m) hmM
              unfold maxLen at hm
              have HQ1 := Lib.hid hr
              have HQ2 := Lib.hid (show okD (ps.getD m []) = false → recR d ps tol = ([], 0, 2) from fun g => HBAD.out (Or.inr ⟨m, hmM, g⟩))
              have HQ3 := Lib.hid (show okD (ps.getD m []) = true → okF d ps (m + 1 + 1) = true from fun g => okF_snoc hmM G.out g)
              obtain ⟨q, hq⟩ : ∃ q, q = ps.getD m [] := ⟨_, rfl⟩
              rw [← hq] at cc hm HQ1 HQ2 HQ3
              obtain ⟨n, hn⟩ : ∃ n, n = q.length := ⟨_, rfl⟩
              have HQL := Lib.hid hn
              rw [← hn] at cc hm
              clear hr hq hn
              go_wp2_with fail
              go_meet
              case rel => exact ⟨rfl, q, a1, cp, n, rfl, hm, HQL, HQ1, HQ2, HQ3⟩
          obtain ⟨rfl, q, a, cc, n, rfl, hn, HQL, HRQ, HQB, HQG⟩ := hcut
          go_wp2_with fail
          go_loop [12] (fun i => ∃ j : Nat, j ≤ n ∧ i = .int .i64 j ∧ Hid (okD (q.take j) = true)) (fun i => n - (intOf i).toNat)
          case atStart => exact ⟨0, by omega, rfl, Lib.hid rfl⟩
          case round =>
            obtain ⟨j, hj, rfl, GJ⟩ := hrel
            by_cases hjn : j < n
            · obtain ⟨ad, rfl, -, c1⟩ := HRQ.out j (by rw [← HQL.out]; exact hjn)
              have hs := okD_snoc q j (by rw [← HQL.out]; exact hjn)
              obtain ⟨x, hx⟩ : ∃ x, x = q.getD j 0 := ⟨_, rfl⟩
              rw [← hx] at c1 hs
              have HS := Lib.hid hs
              clear hx hs
              by_cases v1 : x < 1
              · have HF := Lib.hid (HQB.out (okD_part (k := j + 1) (by rw [HS.out, decide_eq_false (by omega), Bool.and_false])))
                go_wp2_with fail
                refine bodyPost_ret (results_tmp3 rfl _ _ _ _ _ rfl rfl rfl) rfl ?_
                exact RecPost.mk' HF.out Own.nil (Below.refl _ _)
              by_cases v2 : 10000 < x
              · have HF := Lib.hid (HQB.out (okD_part (k := j + 1) (by rw [HS.out, decide_eq_false (by omega), Bool.and_false])))
                go_wp2_with fail
                refine bodyPost_ret (results_tmp3 rfl _ _ _ _ _ rfl rfl rfl) rfl ?_
                exact RecPost.mk' HF.out Own.nil (Below.refl _ _)
              · have HF := Lib.hid (show okD (q.take (j + 1)) = true by rw [HS.out, GJ.out, decide_eq_true (by omega)]; rfl)
                go_wp2_with fail
                go_round
                case rel => exact ⟨j + 1, by omega, by go_num, HF⟩
                case measure => simp [intOf] <;> omega
            · have HF := Lib.hid (HQG.out (by have := GJ.out; rwa [show j = q.length by rw [← HQL.out]; omega, List.take_length] at this))
              go_wp2_with fail
              go_round
              case rel => exact ⟨k' + 1, by omega, by have := HI.out; go_num, HF⟩
              case measure => have := HI.out; simp [intOf] <;> omega
        · have e1 : k' = k + 1 := by omega
          have HE := Lib.hid (HGOOD.out (by rw [← HM.out, ← e1]; exact G.out))
          have e2 : (k' : Int) - 1 = (k : Int) := by omega
          rw [e2]
          clear G e1 e2 hlt hk' HBAD HGOOD
          have HD := Lib.hid (recErr_zero HE.out)
          have hmk : ∀ W, (Instr.makeSlice 22 (.int .i64 ((L : Int) + 1 + 1)) (.int .i64 ((L : Int) + 1 + 1))).run Try.prog W = .ok (.slice (some ⟨W.heap.size, 0, none⟩) (L + 2) (L + 2)) (W.alloc (.cells ((List.replicate (L + 2) 0).map (Value.int .i64)).toArray 3)) := fun W => by
            have := make_intsR W (L + 2) (by omega)
            rwa [show ((L + 2 : Nat) : Int) = (L : Int) + 1 + 1 by omega] at this
          have wr1 : IntKind.i64.wrap ((L : Int) + 1 + 1) = (L : Int) + 1 + 1 := IntWalk.i64_in _ (by omega)
          have HTM := Lib.hid (fun wd hb => Two.made w (L + 2) (by omega) (.cells (Array.replicate (L + 2) (Value.int .i64 0)) 3) (by simp) wd hb)
          go_upto_region 22 with fail
          go_cut [14, 15] (fun b p wx => ∃ gb gp : Nat, gb ≠ gp ∧ w.heap.size ≤ gb ∧ w.heap.size ≤ gp ∧ b = .slice (some ⟨gb, 0, none⟩) (L + 2) (L + 2) ∧ p = .slice (some ⟨gp, 0, none⟩) (L + 2) (L + 2) ∧ Hid (Two w wx gb gp (L + 2) (List.replicate (L + 2) 0) (List.replicate (L + 2) 0)))
          case first =>
            go_region
            · go_wp2_with fail
              go_meet
              case rel => exact ⟨_, _, by omega, by omega, by omega, rfl, rfl, Lib.hid ((HTM.out w (Below.refl _ _)).1.drewN 1)⟩
            · go_wp2_with fail
              go_meet
              case rel => exact ⟨_, _, by omega, by omega, by omega, rfl, rfl, Lib.hid ((HTM.out w (Below.refl _ _)).2.drewN 1)⟩
          obtain ⟨gb, gp, hne, hgb, hgp, rfl, rfl, HT⟩ := hcut
          clear HTM hmk wr1
          have HTS := Lib.hid (tab_start (n := L + 2) (l := L) (T := tb ps tol d) (by rw [tb_len, HL.out]) rfl (by rw [HL.out]; exact tb_end ps tol d))
          go_wp2_with fail
          go_loopw [16] (fun i wr => ∃ q : Nat, q ≤ L + 1 ∧ i = .int .i64 ((q : Int) - 1) ∧ Hid (∃ bs qs, Two w wr gb gp (L + 2) bs qs ∧ TabOk bs qs (tb ps tol d) q)) (fun i _ => (intOf i + 1).toNat)
          case atStart => exact ⟨L + 1, Nat.le_refl _, by congr 1; omega, Lib.hid ⟨_, _, HT.out, HTS.out⟩⟩
          case round =>
            clear HT HTS
            obtain ⟨q, hq, rfl, HS⟩ := hrel
            cases q with
            | succ m =>
              obtain ⟨bs, qs, h1, h2⟩ := HS.out
              have e1 : ((m + 1 : Nat) : Int) - 1 = (m : Int) := by omega
              rw [e1]
              have m0 : (0 : Int) ≤ (m : Int) := by omega
              have m1 : (m : Int) < (L : Int) + 2 := by omega
              have m3 : (m : Int) ≤ (L : Int) := by omega
              have c0 := h1.ob.cell h1.lb.symm m (by rw [h1.lb]; omega)
              have f0 := h1.ob.frozen h1.lb.symm m
              have HI0 := Lib.hid (Inn.start (d := d) (ps := ps) (tol := tol) h1 h2 (by omega) hne hgb)
              clear h1 h2 HS e1
              go_wp2_with fail
              clear c0 f0
              go_loopw [17] (fun i wr => ∃ k' : Nat, k' ≤ k ∧ i = .int .i64 k' ∧ Hid (Inn d ps tol m k' w wr gb gp (L + 2))) (fun i _ => k - (intOf i).toNat)
              case atStart => exact ⟨0, by omega, rfl, HI0⟩
              case round =>
                clear HI0
                obtain ⟨k', hk', rfl, HI⟩ := hrel
                by_cases hlt : k' < k
                · have hkps : k' < ps.length := by rw [← HM.out]; exact hlt
                  have hltI : (k' : Int) < (k : Int) := by omega
                  have HWD := Lib.hid (show Below w.heap.size w wr.drew by obtain ⟨_, _, h1, _⟩ := HI.out; exact bdn (n := 1) h1.bl)
                  obtain ⟨ad, rfl, a1, cp, cc, hr, hm⟩ := (HP0.out.below HWD.out).at_ (k := k') hkps
                  have cc0 : wr.cell? (ad.add k') = some (.slice a1 (ps.getD k' []).length cp) := cc
                  have hsl : ∀ W, (Instr.slice 22 (.slice A L c) (some (.int .i64 (m : Int))) none none).run Try.prog W = .ok (.slice (if c = m then A else A.map (·.add (m * 1))) (L - m) (c - m)) W := fun W => slice_ints A L c m W (by omega)
                  obtain ⟨Am, hAm⟩ : ∃ Am, Am = (if c = m then A else A.map (·.add (m * 1))) := ⟨_, rfl⟩
                  have HAM := Lib.hid (show ∀ W, Row .i64 W W.heap.size A d → Row .i64 W W.heap.size Am (d.drop m) from fun W hr => by rw [hAm]; exact hr.cutI m c (by rw [← HL.out]; exact hcap))
                  rw [← hAm] at hsl
                  have HA1 := Lib.hid (show L - m = (d.drop m).length by rw [List.length_drop, ← HL.out])
                  have q5 := (HD.out.pp _ (getD_memL (k := k') (z := []) hkps)).1
                  obtain ⟨F, hF⟩ : ∃ F, F = fitV (cmpV (d.drop m) (ps.getD k' []) tol) := ⟨_, rfl⟩
                  have HFV := Lib.hid hF
                  have HFT := Lib.hid (show Calls Try.prog 52 #[.slice Am (L - m) (c - m), .slice a1 (ps.getD k' []).length cp, .int .i64 tol] wr.drew (fun e w' => e = .returned (.int .i64 F) ∧ Inn d ps tol m k' w w' gb gp (L + 2)) from by
                    have := fit_any (d.drop m) (ps.getD k' []) tol Am a1 (c - m) cp wr.drew (HAM.out wr.drew (HR0.out.below HWD.out)) hr ((HD.out.drop m).cmp hkps)
                    rw [← HA1.out] at this
                    refine this.mono ?_
                    rintro e w' ⟨rfl, n, rfl⟩
                    obtain ⟨bs, qs, h1, h2, h3, h4⟩ := HI.out
                    exact ⟨by rw [hF], bs, qs, (h1.drewN 1).drewN n, h2, h3, h4⟩)
                  obtain ⟨q, hq⟩ : ∃ q, q = (ps.getD k' []).length := ⟨_, rfl⟩
                  have HQ := Lib.hid hq
                  rw [← hq] at cc cc0 q5 HFT
                  have HA2 := Lib.hid HA1.out
                  clear hF hAm hr hm hq HI HWD HAM HA1
                  go_upto_region 30 with fail
                  go_region_law (first
                    | (go_simp; go_at_call 52; refine HFT.out.mono ?_; rintro e w2 ⟨rfl, T2⟩; have HI2 := Lib.hid T2; clear T2))
                  all_goals
                    clear cc cc0 hsl HFT
                    obtain ⟨bs, qs, z1, z2, z3, z4⟩ := HI2.out
                    have HTW := Lib.hid z1
                    have HTA := Lib.hid z2
                    obtain ⟨ad', ea, a2, cp2, c5, -, -⟩ := (HP0.out.below z1.bl).at_ (k := k') hkps
                    injection ea with ea
                    subst ea
                    rw [← HQ.out] at c5
                    cases hcv : cmpV (d.drop m) (ps.getD k' []) tol with
                    | none =>
                      have hF : F = -1 := by rw [HFV.out, hcv]; rfl
                      have HR := Lib.hid (Inn.same HI2.out (stK_nofit hcv))
                      subst hF
                      clear z1 z2 z3 z4 hcv
                      go_wp2_with fail
                      go_roundw
                      case rel => exact ⟨k' + 1, by omega, by go_num, HR⟩
                      case measure => simp [intOf] <;> omega
                    | some s0 =>
                      have hF : F = s0 := by rw [HFV.out, hcv]; rfl
                      subst hF
                      have hb := cmpV_bd hcv
                      have hqm : q ≤ L - m := by rw [HQ.out, HA2.out]; exact hb.1
                      have s1 : 0 ≤ F := hb.2.1
                      have s2 : F ≤ 50000 := by
                        have : tol * ((ps.getD k' []).length : Int) ≤ 10000 * 5 := Int.mul_le_mul HD.out.t1 (by rw [← HQ.out]; omega) (by omega) (by omega)
                        have := hb.2.2
                        omega
                      have hX := (z2 (m + 1 + q) (by omega) (by rw [tb_len, ← HL.out]; omega)).1
                      have HXD := Lib.hid (getD_drop (tb ps tol d) (m + 1) q none)
                      have hco := cost_drop HD.out (m + 1)
                      have cX := z1.ob.cell z1.lb.symm (m + 1 + q) (by rw [z1.lb]; omega)
                      rw [hX, ← HXD.out] at cX
                      have eX : m + 1 + q = m + q + 1 := by omega
                      rw [eX] at cX
                      have k1 : (m : Int) + (q : Int) + 1 < (L : Int) + 2 := by omega
                      have ns : ¬ F < 0 := by omega
                      have cB := z1.ob.cell z1.lb.symm m (by rw [z1.lb]; omega)
                      rw [z3] at cB
                      have fB := z1.ob.frozen z1.lb.symm m
                      have cQ := z1.oq.cell z1.lq.symm m (by rw [z1.lq]; omega)
                      have fQ := z1.oq.frozen z1.lq.symm m
                      have HCV := Lib.hid hcv
                      cases hx : ((tb ps tol d).drop (m + 1)).getD q none with
                      | none =>
                        rw [hx] at cX
                        replace cX : w2.cell? ⟨gb, m + q + 1, none⟩ = some (.int .i64 (-1)) := cX
                        have HR := Lib.hid (Inn.same HI2.out (stK_norest hcv (by rw [← HQ.out]; exact hx)))
                        clear z1 z2 z3 z4 hcv hb hX hco hx eX cB fB cQ fQ
                        go_wp2_with fail
                        go_roundw
                        case rel => exact ⟨k' + 1, by omega, by go_num, HR⟩
                        case measure => simp [intOf] <;> omega
                      | some x =>
                        have hx0 := hco _ _ hx
                        have HXX := Lib.hid (show ((tb ps tol d).drop (m + 1)).getD (ps.getD k' []).length none = some x by rw [← HQ.out]; exact hx)
                        obtain ⟨x1, hx1⟩ : ∃ x1, x1 = x.1 := ⟨_, rfl⟩
                        have HX1 := Lib.hid hx1
                        obtain ⟨x2, x3⟩ := hx0
                        rw [← hx1] at x2 x3
                        rw [hx] at cX
                        replace cX : w2.cell? ⟨gb, m + q + 1, none⟩ = some (.int .i64 x1) := by rw [hx1]; exact cX
                        have nx : ¬ x1 < 0 := by omega
                        cases hy : stK (d.drop m) ps tol ((tb ps tol d).drop (m + 1)) k' with
                        | none =>
                          rw [hy] at cB
                          replace cB : w2.cell? ⟨gb, m, none⟩ = some (.int .i64 (-1)) := cB
                          have HST := Lib.hid (show stK (d.drop m) ps tol ((tb ps tol d).drop (m + 1)) (k' + 1) = some (F + x1, k') by rw [hx1]; exact stK_first HCV.out HXX.out hy)
                          clear z1 z2 z3 z4 hcv hb hX hco hx eX hy hx1
                          go_wp2_with fail
                          go_quiet (fail)
                          go_wp2_with fail
                          go_roundw
                          case rel => exact ⟨k' + 1, by omega, by go_num, Lib.hid (Inn.put (HTW.out.drewN _) HTA.out (by omega) hne hgb hgp _ HST.out)⟩
                          case measure => simp [intOf] <;> omega
                        | some y =>
                          have hlow := stK_low hco HD.out.t0 HD.out.t1 (fun p hp => (HD.out.pp p hp).1) (by omega) hy
                          obtain ⟨y1, hy1⟩ : ∃ y1, y1 = y.1 := ⟨_, rfl⟩
                          have HY1 := Lib.hid hy1
                          obtain ⟨y2, y3⟩ := hlow
                          rw [← hy1] at y2 y3
                          rw [hy] at cB
                          replace cB : w2.cell? ⟨gb, m, none⟩ = some (.int .i64 y1) := by rw [hy1]; exact cB
                          have hd1 : decide (y1 < 0) = false := decide_eq_false (by omega)
                          have nd1 : ¬ y1 < 0 := by omega
                          by_cases hz : F + x1 < y1
                          · have HST := Lib.hid (show stK (d.drop m) ps tol ((tb ps tol d).drop (m + 1)) (k' + 1) = some (F + x1, k') by rw [hx1]; exact stK_less HCV.out HXX.out hy (by rw [← hx1, ← hy1]; exact hz))
                            clear z1 z2 z3 z4 hcv hb hX hco hx eX hy hx1 hy1
                            go_wp2_with fail
                            go_quiet (fail)
                            go_wp2_with fail
                            go_roundw
                            case rel => exact ⟨k' + 1, by omega, by go_num, Lib.hid (Inn.put (HTW.out.drewN _) HTA.out (by omega) hne hgb hgp _ HST.out)⟩
                            case measure => simp [intOf] <;> omega
                          · have HR := Lib.hid (Inn.same HI2.out ((stK_not HCV.out HXX.out hy (by rw [← hx1, ← hy1]; exact hz)).trans hy.symm))
                            have hd2 : decide (F + x1 < y1) = false := decide_eq_false hz
                            clear z1 z2 z3 z4 hcv hb hX hco hx eX hy hx1 hy1 cQ fQ fB
                            go_wp2_with fail
                            go_quiet (fail)
                            go_wp2_with fail
                            go_roundw
                            case rel => exact ⟨k' + 1, by omega, by go_num, Lib.hid (Inn.drewN HR.out _)⟩
                            case measure => simp [intOf] <;> omega
                · have hlt' : ¬ (k' : Int) < (k : Int) := by omega
                  have HF := Lib.hid (Inn.done (by have := HI.out; rwa [show k' = ps.length by rw [← HM.out]; omega] at this) (by rw [← HL.out]; omega))
                  go_wp2_with fail
                  go_roundw
                  case rel => exact ⟨m, by omega, by simp, HF⟩
                  case measure => simp [intOf] <;> omega
            | zero =>
              obtain ⟨bs, qs, h1, h2⟩ := HS.out
              have HTW := Lib.hid h1
              have HTA := Lib.hid h2
              have HB := Lib.hid h1.bl
              have HLT := Lib.hid (show L + 2 = (tb ps tol d).length by rw [tb_len, HL.out])
              have e1 : ((0 : Nat) : Int) - 1 = -1 := rfl
              rw [e1]
              have c0 := h1.ob.cell h1.lb.symm 0 (by rw [h1.lb]; omega)
              rw [(h2 0 (by omega) (by rw [← HLT.out]; omega)).1] at c0
              cases hx : (tb ps tol d).getD 0 none with
              | none =>
                have HF := Lib.hid (recR_none HE.out hx)
                rw [hx] at c0
                replace c0 : wr.cell? ⟨gb, 0, none⟩ = some (.int .i64 (-1)) := c0
                clear hx h1 h2 e1
                go_wp2_with fail
                refine bodyPost_ret (results_tmp3 rfl _ _ _ _ _ rfl rfl rfl) rfl ?_
                exact RecPost.mk' HF.out Own.nil HB.out
              | some z =>
                have HF := Lib.hid (recR_some HE.out hx)
                have HXZ := Lib.hid hx
                have hz0 := (tb_cost HD.out 0 z hx).1
                rw [hx] at c0
                replace c0 : wr.cell? ⟨gb, 0, none⟩ = some (.int .i64 z.1) := c0
                have nz : ¬ z.1 < 0 := by omega
                generalize wr = wo at *
                clear hx h1 h2 e1 HS hq
                go_wp2_with fail
                clear c0
                go_loopw [20, 21] (fun v i wr => ∃ (j : Nat) (acc : List Nat), i = .int .i64 (j : Int) ∧ j ≤ L + 1 ∧ acc.length ≤ j ∧ Hid (acc ++ pth ps (tb ps tol d) (L + 1) (L + 1) j = recPath d ps tol) ∧ Hid (∃ z, (tb ps tol d).getD j none = some z) ∧ Hid (Own .i64 3 wr w.heap.size v (acc.map Int.ofNat)) ∧ Hid (Gr wo none v wr)) (fun _ i _ => L + 1 - (intOf i).toNat)
                case atStart => exact ⟨0, [], rfl, by omega, by simp, Lib.hid (by rw [HL.out]; rfl), Lib.hid ⟨z, HXZ.out⟩, Lib.hid Own.nil, Lib.hid (Gr.nil wo none)⟩
                case round =>
                  obtain ⟨j, acc, rfl, hj, hacc, HPT, HZZ, O, G⟩ := hrel
                  have HBR := Lib.hid (G.out.base HB.out HB.out.size (fun g hg => by cases hg))
                  by_cases hlt : j < L + 1
                  · obtain ⟨x, hx⟩ := HZZ.out
                    have c2' := (HTW.out.oq.kept G.out.gr (Or.inr (by simp [Value.ownBlock]))).cell HTW.out.lq.symm j (by rw [HTW.out.lq]; omega)
                    rw [(HTA.out j (by omega) (by rw [← HLT.out]; omega)).2 x hx] at c2'
                    obtain ⟨x1, cc, y, x2, x3, x4, x5⟩ := tb_some (by rw [← HL.out]; omega) hx
                    have HST := Lib.hid (pth_step (ps := ps) (t := tb ps tol d) (n := L + 1) hlt hx)
                    have HNX := Lib.hid x3
                    have HPP := Lib.hid (HP0.out.below HBR.out)
                    obtain ⟨ad2, rfl, a1, cp, c5, hr, hm⟩ := HPP.out.at_ (k := x.2) x1
                    have HCQ := Lib.hid (show ∀ W v5, Gr wo none v5 W → W.cell? ⟨gp, j, none⟩ = some (.int .i64 (x.2 : Int)) from fun W v5 G2 => by
                      have := (HTW.out.oq.kept G2.gr (Or.inr (by simp [Value.ownBlock]))).cell HTW.out.lq.symm j (by rw [HTW.out.lq]; omega)
                      rwa [(HTA.out j (by omega) (by rw [← HLT.out]; omega)).2 x hx] at this)
                    obtain ⟨p2, hp2⟩ : ∃ p, p = x.2 := ⟨_, rfl⟩
                    rw [← hp2] at c2' x1 x5 HST HNX c5 HCQ
                    obtain ⟨q, hq⟩ : ∃ q, q = (ps.getD p2 []).length := ⟨_, rfl⟩
                    have q5 := (HD.out.pp _ (getD_memL (k := p2) (z := []) x1)).1
                    rw [← hq] at x5 HST HNX c5 q5
                    rw [← HL.out] at x5
                    have x1' := x1
                    rw [← HM.out] at x1
                    have hps : (p2 : Int) < (k : Int) := by omega
                    have hk1 : (j : Int) < (L : Int) + 1 := by omega
                    have hk2 : (j : Int) < (L : Int) + 2 := by omega
                    have HLEN := Lib.hid (show (acc.map Int.ofNat).length + 1 ≤ 1000000000 by rw [List.length_map]; omega)
                    have HSB := Lib.hid HBR.out.size
                    have hblk : (ad2.add p2).block < w.heap.size := by rw [add_block]; exact HP0.out.blk x1'
                    have HLP := Lib.hid (fun W (hW : Below w.heap.size w W) => (show W.cell? (ad2.add p2) = some (.slice a1 q cp) from ((hW.cell hblk).trans (HBR.out.cell hblk).symm).trans c5))
                    clear hx x2 x3 x4 hr hm hp2 hq hblk x1'
                    go_wp2_with (first
                      | (at_builtin; refine wpList_appI _ rfl (.tmp 178) (.tmp 183) rfl w.heap.size _ (acc.map Int.ofNat) rfl (O.out.alloc _) (p2 : Int) wr rfl _ rfl 1 rfl HLEN.out (le_allocW HSB.out) ?_; intro v5 w5 A5; have G2 := Lib.hid ((G.out.alloc _).app A5); have O2 := Lib.hid A5.1; have cq := HLP.out w5 (G2.out.base HB.out HB.out.size (fun g hg => by cases hg)); have cq2 := HCQ.out w5 v5 G2.out; clear A5 c5 c2'))
                    clear HSB HPP HBR O G
                    go_roundw
                    case rel => exact ⟨j + (q + 1), acc ++ [p2], by go_num, by omega, by rw [List.length_append]; simp; omega, Lib.hid (by rw [List.append_assoc, ← HPT.out, HST.out, Nat.add_assoc]; rfl), Lib.hid ⟨y, by rw [← HNX.out]; congr 1; omega⟩, Lib.hid (by rw [List.map_append]; exact O2.out), G2⟩
                    case measure => simp [intOf] <;> omega
                  · obtain rfl : j = L + 1 := by omega
                    have HE2 := Lib.hid (show acc = recPath d ps tol by have := HPT.out; rw [pth_end (Nat.le_refl _), List.append_nil] at this; exact this)
                    have c1 := (HTW.out.ob.kept G.out.gr (Or.inr (by simp [Value.ownBlock]))).cell HTW.out.lb.symm 0 (by rw [HTW.out.lb]; omega)
                    rw [(HTA.out 0 (by omega) (by rw [← HLT.out]; omega)).1, HXZ.out] at c1
                    replace c1 : wr.cell? ⟨gb, 0, none⟩ = some (.int .i64 z.1) := c1
                    have hk1 : ¬ ((L + 1 : Nat) : Int) < (L : Int) + 1 := by omega
                    rw [HE2.out] at O
                    clear hlt hj hacc
                    go_wp2_with fail
                    go_quiet (fail)
                    go_wp2_with fail
                    refine bodyPost_ret (results_tmp3 rfl _ _ _ _ _ rfl rfl rfl) rfl ?_
                    exact RecPost.mk' HF.out (O.out.drewN _) (bdn HBR.out)
end Go.Proofs.Ytgiodpepjajlmaa
