/-
  Stage 11: the walk of JobSorts.
-/
import Derived.Test.YthedalfokekbkaaJOl
set_option linter.unusedSimpArgs false
set_option linter.unusedVariables false
namespace Go.Proofs.Ythedalfokekbkaa
open Go.RowKit Go.Lib

theorem infoSli : (Try.prog.info? 27).map (fun i => (i.zero, i.size, i.bytes)) = some (some (.slice none 0 0), 1, 24) := by kernel_rfl
theorem make_lists (w : World) : (Instr.makeSlice 34 (.int .i64 3) (.int .i64 3)).run Try.prog w = .ok (.slice (some ⟨w.heap.size, 0, none⟩) 3 3) (w.alloc (.cells #[.slice none 0 0, .slice none 0 0, .slice none 0 0] 27)) := by
  obtain ⟨i0, hi, hz0, hz1, hz2⟩ := info_parts infoSli
  have h := run_make (P := Try.prog) w 34 27 i0 (.slice none 0 0) Try.underlying34 hi hz0 .i64 .i64 3 3 (by omega) (Int.le_refl _) (by rw [hz2]; omega) (by omega)
  rw [hz1] at h
  have e : madeCells (Value.slice none 0 0).cells (Int.toNat 3 * 1) = #[.slice none 0 0, .slice none 0 0, .slice none 0 0] := by kernel_rfl
  rw [e] at h
  exact h
theorem runM_trn {l : List It} (h : runM 0 l) {i : Nat} (hi : i < l.length) : ∃ t : Nat, t < 3 ∧ trn l i = (t : Int) := by
  have := (runM_mem h _ (getD_memI hi)).1
  obtain ⟨t, ht⟩ := Int.eq_ofNat_of_zero_le this.1
  exact ⟨t, by have h2 : (l.getD i it0).1 ≤ 2 := this.2; omega, ht⟩
theorem OL.store2 {w : World} {g base : Nat} {vs : List Value} {ts : List (List Int)} {k b n c : Nat} {t : List Int} (h : OL w g base vs ts) (hv : vs[k]? = some (.slice (some ⟨b, 0, none⟩) n c)) (ht : ts[k]? = some t) (hn : n = t.length) (i j : Nat) (x y : Int) :
    OL ((w.setCell ⟨b, i, none⟩ (.int .i64 x)).setCell ⟨b, j, none⟩ (.int .i64 y)) g base vs (ts.set k ((t.set i x).set j y)) := by
  have hkl : k < ts.length := (List.getElem?_eq_some_iff.1 ht).1
  have h1 := h.store hv ht hn i x
  have h2 := h1.store hv (t := t.set i x) (by rw [List.getElem?_set, if_pos rfl, if_pos hkl]) (by rw [List.length_set]; exact hn) j y
  rwa [List.set_set] at h2
/-- The cells of list k. -/
theorem OL.num {w : World} {g base : Nat} {vs : List Value} {ts : List (List Int)} {k b n c : Nat} {t : List Int} (h : OL w g base vs ts) (hv : vs[k]? = some (.slice (some ⟨b, 0, none⟩) n c)) (ht : ts[k]? = some t) (hn : n = t.length) :
    (∀ j, j < n → w.cell? ⟨b, j, none⟩ = some (.int .i64 (t.getD j 0))) ∧ (∀ j, w.frozen? ⟨b, j, none⟩ = false) ∧ g < b := by
  have O := h.own k _ t hv ht
  refine ⟨fun j hj => O.cell hn j (by omega), fun j => O.frozen hn j, ?_⟩
  have := (own_block O (g := b) rfl).1
  have := h.gb
  omega
theorem split2 {xs : List Nat} {i : Nat} (h : i + 1 < xs.length) : xs = xs.take i ++ xs.getD i 0 :: xs.getD (i + 1) 0 :: xs.drop (i + 2) := by
  rw [← drop_any 0 h, ← drop_any 0 (show i < xs.length by omega), List.take_append_drop]
theorem swap_eq {xs : List Nat} {i : Nat} (h : i + 1 < xs.length) : ((toZ xs).set i (xs.getD (i + 1) 0 : Nat)).set (i + 1) (xs.getD i 0 : Nat) = toZ (xs.take i ++ xs.getD (i + 1) 0 :: xs.getD i 0 :: xs.drop (i + 2)) := by
  have hl : (xs.take i).length = i := by rw [List.length_take]; omega
  have e := congrArg toZ (split2 h)
  generalize xs.getD i 0 = a at *
  generalize xs.getD (i + 1) 0 = b at *
  generalize xs.drop (i + 2) = post at *
  generalize xs.take i = pre at *
  rw [e]
  subst hl
  unfold toZ
  rw [List.map_append, List.map_append, List.set_append_right _ _ (by simp)]
  simp
theorem swap_back {t : List Int} {i : Nat} (h : i + 1 < t.length) (a b : Int) (ha : t.getD i 0 = a) (hb : t.getD (i + 1) 0 = b) : (((t.set i b).set (i + 1) a).set i a).set (i + 1) b = t := by
  refine List.ext_getElem? fun j => ?_
  rw [List.getElem?_set, List.getElem?_set, List.getElem?_set, List.getElem?_set]
  simp only [List.length_set]
  by_cases e1 : i + 1 = j
  · subst e1
    rw [if_pos rfl, if_pos h, ← hb, List.getD_eq_getElem?_getD, List.getElem?_eq_getElem h]; rfl
  · rw [if_neg e1, if_neg e1]
    by_cases e2 : i = j
    · subst e2
      rw [if_pos rfl, if_pos (by omega), ← ha, List.getD_eq_getElem?_getD, List.getElem?_eq_getElem (by omega : i < t.length)]; rfl
    · rw [if_neg e2, if_neg e2]
theorem swap_sorted {l : List It} {ts : List (List Nat)} {n : Nat} {xs : List Nat} (hg : ∀ (k : Nat) p, ts[k]? = some p → Good l (k : Int) p) (hall : ∀ x, x < l.length → ∃ p ∈ ts, x ∈ p) (hn : ts[n]? = some xs) {i : Nat} (h : i + 1 < xs.length) :
    sortedB l ((ts.map toZ).set n (((toZ xs).set i (xs.getD (i + 1) 0 : Nat)).set (i + 1) (xs.getD i 0 : Nat))) = (blk l (xs.getD i 0) == blk l (xs.getD (i + 1) 0)) := by
  rw [swap_eq h]
  have hnl : n < ts.length := (List.getElem?_eq_some_iff.1 hn).1
  have hgx := hg n xs hn
  rw [split2 h] at hgx
  by_cases e : blk l (xs.getD i 0) = blk l (xs.getD (i + 1) 0)
  · rw [show (ts.map toZ).set n (toZ (xs.take i ++ xs.getD (i + 1) 0 :: xs.getD i 0 :: xs.drop (i + 2))) = (ts.set n (xs.take i ++ xs.getD (i + 1) 0 :: xs.getD i 0 :: xs.drop (i + 2))).map toZ from (List.map_set ..).symm]
    rw [sorted_good (fun k p hk => ?_) (fun x hx => ?_)]
    · simpa using e
    · rw [List.getElem?_set] at hk
      by_cases ek : n = k
      · subst ek
        rw [if_pos rfl, if_pos hnl] at hk
        injection hk with hk
        rw [← hk]; exact hgx.swap e
      · rw [if_neg ek] at hk; exact hg k p hk
    · obtain ⟨p, hp, hxp⟩ := hall x hx
      obtain ⟨k, hk⟩ := List.mem_iff_getElem?.1 hp
      by_cases ek : n = k
      · subst ek
        rw [hn] at hk
        injection hk with hk
        refine ⟨xs.take i ++ xs.getD (i + 1) 0 :: xs.getD i 0 :: xs.drop (i + 2), ?_, ?_⟩
        · rw [List.mem_iff_getElem?]
          exact ⟨n, by rw [List.getElem?_set, if_pos rfl, if_pos hnl]⟩
        · rw [← hk, split2 h] at hxp
          exact (List.Perm.append_left (xs.take i) (List.Perm.swap ..)).mem_iff.1 hxp
      · exact ⟨p, by rw [List.mem_iff_getElem?]; exact ⟨k, by rw [List.getElem?_set, if_neg ek]; exact hk⟩, hxp⟩
  · have hle := hgx.le
    rw [sorted_fall (k := n) (pre := xs.take i) (post := xs.drop (i + 2)) (a := xs.getD i 0) (b := xs.getD (i + 1) 0) (by rw [List.getElem?_set, if_pos rfl, if_pos (by simpa using hnl)]) (by omega)]
    exact (beq_eq_false_iff_ne.2 e).symm
theorem finT_all {l : List It} (hb : BlkOk l) (ht : ∀ x, x < l.length → ∃ t : Nat, t < 3 ∧ trn l x = (t : Int)) : ∀ x, x < l.length → ∃ p ∈ finT l, x ∈ p := by
  intro x hx
  obtain ⟨t, h3, htx⟩ := ht x hx
  have hbx := hb x hx
  have hm : ∀ u : Int, trn l x = u → x ∈ accL l u 32 := fun u hu => (accL_mem (l := l) (t := u) (b := 32) (x := x)).2 ⟨hx, by omega, hu⟩
  unfold finT
  have h : t = 0 ∨ t = 1 ∨ t = 2 := by omega
  rcases h with e | e | e
  · exact ⟨accL l 0 32, List.mem_cons_self .., hm 0 (by rw [htx, e]; rfl)⟩
  · exact ⟨accL l 1 32, List.mem_cons_of_mem _ (List.mem_cons_self ..), hm 1 (by rw [htx, e]; rfl)⟩
  · exact ⟨accL l 2 32, List.mem_cons_of_mem _ (List.mem_cons_of_mem _ (List.mem_cons_self ..)), hm 2 (by rw [htx, e]; rfl)⟩
theorem AppI.belowG {g base : Nat} {w0 W w' : World} {v v' : Value} {t : List Int} {y : Int} (A : AppI base v t y W v' w') (h : Below g w0 W) (O : Own .i64 3 W base v t) (hg : g ≤ base) (hW : g ≤ W.heap.size) : Below g w0 w' :=
  h.grown A.2.1 hW (fun k hk => Nat.le_trans hg (own_block O hk).1)
set_option maxRecDepth 100000 in
set_option maxHeartbeats 3200000 in
theorem sorts_walk (A : Option Addr) (c : Nat) (zs : List Int) (w : World) (hr : Row .i64 w w.heap.size A zs) (hm : zs.length ≤ maxLen) (hw : ∀ n ∈ zs, (Lit.int .i64 n).wf = true) :
    Calls Try.prog 8 #[.slice A zs.length c] w fun e w' => e = .returned (.bool true) ∧ Below w.heap.size w w' := by
  have K := Lib.hid (mk_row (c := c) (T := 56) hr hm hw)
  have B := Lib.hid ((Below.refl w.heap.size w).alloc (Nat.le_refl _) (.cells #[.slice A zs.length c, .int .i64 0] 56))
  clear hr hw
  go_enter Try.func8, Try.ntmps8
  go_wp2_with fail
  refine (new_any A zs.length c w).mono ?_
  rintro e w1 ⟨rfl, hw1⟩
  rw [← hw1] at K B
  clear hw1 hm
  go_wp2_with fail
  refine (mjob_any w.heap.size 0 14 w1 K.out (by omega) (by omega)).mono ?_
  rintro e w2 ⟨jA, jc, l, wt, rfl, O, hl, hrun, hwt, _, V⟩
  have S0 := JSt.new rfl B.out K.out O (by omega) hrun hwt V
  have S := Lib.hid S0
  obtain ⟨b, hb⟩ : ∃ b, b = w2.heap.size := ⟨_, rfl⟩
  rw [← hb] at S
  clear K B O V S0 hwt hrun
  go_upto_region 3 with fail
  rw [← hb]
  generalize w2.alloc (.cells #[.slice jA l.length jc, .int .i64 wt] 24) = w3 at *
  clear hb
  obtain ⟨L, hL⟩ : ∃ n, n = l.length := ⟨_, rfl⟩
  have HL := Lib.hid hL
  rw [← hL] at hl ⊢
  have hmk := make_lists w3
  have O0 := Lib.hid (OL.new w3)
  have BB0 := Lib.hid ((Below.refl w3.heap.size w3).alloc (Nat.le_refl _) (.cells #[.slice none 0 0, .slice none 0 0, .slice none 0 0] 27))
  obtain ⟨g, hg⟩ : ∃ g, g = w3.heap.size := ⟨_, rfl⟩
  have HG := Lib.hid hg
  rw [← hg] at hmk O0 BB0
  generalize w3.alloc (.cells #[.slice none 0 0, .slice none 0 0, .slice none 0 0] 27) = w4 at *
  have HO0 := Lib.hid (show OL w4 g (g + 1) [.slice none 0 0, .slice none 0 0, .slice none 0 0] ((stT l 0 0).map toZ) from O0.out)
  have HS := Lib.hid (fun (W : World) (k : Below g w3 W) => (show JSt w W b jA jc l wt from S.out.below (by rw [← HG.out]; exact k)))
  have HJB := Lib.hid (show ∀ W, Below g w3 W → JBox W b jA L jc wt from fun W k => by
    have := (HS.out W k).box
    rwa [← HL.out] at this)
  clear hL hg O0
  go_wp2_with fail
  clear hmk
  go_loopw [6] (fun iv wr => ∃ (bb : Nat) (vs : List Value), bb ≤ 32 ∧ iv = .int .i64 (bb : Int) ∧ Hid (OL wr g (g + 1) vs ((stT l bb 0).map toZ)) ∧ Hid (Below g w3 wr)) (fun iv _ => 32 - (intOf iv).toNat)
  case atStart => exact ⟨0, _, by omega, rfl, HO0, BB0⟩
  case round =>
    clear HO0 BB0
    obtain ⟨bb, vs, hbb, rfl, O, B⟩ := hrel
    by_cases hlt : bb < 32
    · obtain ⟨j0, j1, jl⟩ := HJB.out _ B.out
      go_wp2_with fail
      clear j0 j1 jl
      go_loopw [29] (fun iv wi => ∃ (i : Nat) (us : List Value), i ≤ L ∧ iv = .int .i64 (i : Int) ∧ Hid (OL wi g (g + 1) us ((stT l bb i).map toZ)) ∧ Hid (Below g w3 wi)) (fun iv _ => L - (intOf iv).toNat)
      case atStart => exact ⟨0, vs, by omega, rfl, O, B⟩
      case round =>
        clear O B
        obtain ⟨i, us, hi, rfl, O, B⟩ := hrel
        by_cases hli : i < L
        · have hS := HS.out _ B.out
          obtain ⟨ad, rfl, C⟩ := hS.row.at_ i (by rw [← HL.out]; exact hli)
          obtain ⟨c0, c1, c2, c3⟩ := C.spelt
          have htb : trn l i = (l.getD i it0).1 ∧ blk l i = (l.getD i it0).2.1 := ⟨rfl, rfl⟩
          obtain ⟨tn, ht3, htn⟩ := runM_trn hS.run (i := i) (by rw [← HL.out]; exact hli)
          obtain ⟨⟨t, kb, r, gg⟩, hp⟩ : ∃ p, p = l.getD i it0 := ⟨_, rfl⟩
          rw [← hp] at c0 c1 c2 c3 htb
          have htt : t = (tn : Int) := htb.1.symm.trans htn
          subst htt
          have HTN := Lib.hid htn
          have HKB := Lib.hid htb.2
          have hli' : (i : Int) < (L : Int) := by omega
          have P1 := (IPl.new (w := wr) (p := ((tn : Int), kb, r, gg)) (T := 26) wr.heap.size rfl)
          have O1 := Lib.hid (O.out.below ((Below.refl _ _).alloc (Nat.le_refl _) (.cells #[.int .i64 (tn : Int), .int .i64 kb, .int .i64 r, .int .i64 gg] 26)))
          have B1 := Lib.hid (B.out.alloc (Nat.le_of_lt O.out.lt) (.cells #[.int .i64 (tn : Int), .int .i64 kb, .int .i64 r, .int .i64 gg] 26))
          have hgwr := O.out.lt
          have HOQ := Lib.hid (fun (k : Nat) (v : Value) (t : List Int) (h1 : us[k]? = some v) (h2 : ((stT l bb i).map toZ)[k]? = some t) (j : Nat) (h3 : v.ownBlock = some j) => (own_block (O.out.own k v t h1 h2) h3).2)
          clear hS C htb htn hp O
          by_cases e : kb = (bb : Int)
          · subst e
            have hbe : ((bb : Int) == (bb : Int)) = true := by simp
            go_upto_region 10 with fail
            clear c0 c1 c2 c3
            obtain ⟨q, hq⟩ : ∃ q, q = wr.heap.size := ⟨_, rfl⟩
            rw [← hq] at P1 ⊢
            generalize wr.alloc (.cells #[.int .i64 (tn : Int), .int .i64 (bb : Int), .int .i64 r, .int .i64 gg] 26) = W1 at *
            obtain ⟨p0, p1, p2, p3, plt⟩ := P1
            have htl : tn < us.length := by rw [O1.out.len]; unfold stT; simp; omega
            obtain ⟨v, hv⟩ : ∃ v, us[tn]? = some v := ⟨_, List.getElem?_eq_getElem htl⟩
            have hct := O1.out.cell hv
            have ht := stT_at l bb i ht3
            obtain ⟨xs, hxs⟩ : ∃ xs, xs = accL l tn bb ++ blkL l tn bb i := ⟨_, rfl⟩
            have HXS := Lib.hid hxs
            rw [← hxs] at ht
            have htz : ((stT l bb i).map toZ)[tn]? = some (toZ xs) := by rw [List.getElem?_map, ht]; rfl
            have HV := Lib.hid hv
            have HTZ := Lib.hid htz
            have HXL := Lib.hid (show (toZ xs).length + 1 ≤ 1000000000 by
              rw [toZ_len, hxs, List.length_append]
              have h1 := accL_len l tn bb
              have h2 : (blkL l tn bb i).length ≤ i := by unfold blkL; have := List.length_filter_le (fun x => blk l x == (bb : Int) && trn l x == (tn : Int)) (List.range i); simpa using this
              have h3 := HL.out
              omega)
            have HOW := Lib.hid (O1.out.own tn v _ hv htz)
            have HLE := Lib.hid O1.out.le
            have HVQ := Lib.hid (show v.ownBlock ≠ some q from fun e => by have := HOQ.out tn v _ hv htz q e; omega)
            have HQL := Lib.hid plt
            have HQG := Lib.hid (show q ≠ g by omega)
            have HGL := Lib.hid (show g ≤ W1.heap.size from Nat.le_of_lt O1.out.lt)
            have ht3' : (tn : Int) < 3 := by omega
            have ba := (Below.refl W1.heap.size W1).alloc (Nat.le_refl _) (.cells #[.int .i64 (i : Int)] 3)
            have hct2 := (ba.cell (p := ⟨g, tn, none⟩) O1.out.lt).trans hct
            have p02 := (ba.cell (p := ⟨q, 0, none⟩) plt).trans p0
            have HP2 := Lib.hid (show (W1.drew.alloc (.cells #[.int .i64 (i : Int)] 3)).cell? ⟨q, 0, none⟩ = some (.int .i64 (tn : Int)) from p02)
            clear ba
            have HSTEP := Lib.hid (show ((stT l bb i).map toZ).set tn (toZ xs ++ [(i : Int)]) = (stT l bb (i + 1)).map toZ by rw [stT_yes HKB.out HTN.out ht3, ← hxs, List.map_set, toZ_app]; rfl)
            clear hv htz ht hxs hq htl
            go_upto_region 11 with fail
            go_region_law (refine step_appI _ rfl (.tmp 45) (.tmp 47) rfl (g + 1) _ (toZ xs) rfl ((HOW.out.drewN 1).alloc _) (i : Int) W1.drew rfl _ rfl 1 rfl HXL.out (le_allocW (w := W1) HLE.out) ?_; intro v5 w5 A5; have hA5 := A5.2.2; obtain ⟨g5, cp5, rfl, -⟩ := hA5; have p05 := A5.2.1.cell HP2.out (fun e => HVQ.out e.symm); have hOA := ((O1.out.drewN 1).below ((Below.refl _ _).alloc (Nat.le_refl _) (.cells #[.int .i64 (i : Int)] 3))).app HV.out HTZ.out A5; have hB5 := Lib.hid (A5.belowG (B1.out.drew.alloc HGL.out (.cells #[.int .i64 (i : Int)] 3)) ((HOW.out.drewN 1).alloc _) (Nat.le_succ g) (le_allocW (w := W1) HGL.out)); obtain ⟨c5, f5, O5⟩ := hOA; have HO5 := Lib.hid O5; clear O5 A5)
            all_goals
              have B6 := Lib.hid (hB5.out.setCell (p := ⟨g, tn, none⟩) (Nat.le_refl g) (.slice (some ⟨g5, 0, none⟩) ((toZ xs).length + 1) cp5))
              rw [HSTEP.out] at HO5
              clear hB5 c5 f5 p05
              go_wp2_with fail
              go_roundw
              case rel => exact ⟨_, _, .int .i64 ((i + 1 : Nat) : Int), ⟨i + 1, by omega, rfl, _, HO5⟩, rfl, rfl, by go_num⟩
              case measure => simp [intOf]; omega
          · have hbe : (kb == (bb : Int)) = false := by simpa using e
            have HST := Lib.hid (show (stT l bb i).map toZ = (stT l bb (i + 1)).map toZ by rw [stT_no (by rw [HKB.out]; exact e)])
            rw [HST.out] at O1
            go_upto_region 10 with fail
            clear c0 c1 c2 c3
            obtain ⟨q, hq⟩ : ∃ q, q = wr.heap.size := ⟨_, rfl⟩
            rw [← hq] at P1 ⊢
            generalize wr.alloc (.cells #[.int .i64 (tn : Int), .int .i64 kb, .int .i64 r, .int .i64 gg] 26) = W1 at *
            obtain ⟨p0, p1, p2, p3, plt⟩ := P1
            clear hq e
            go_wp2_with fail
            go_roundw
            case rel => exact ⟨i + 1, us, by omega, by go_num, O1, B1⟩
            case measure => simp [intOf]; omega
        · obtain rfl : i = L := by omega
          have HST := Lib.hid (show (stT l bb i).map toZ = (stT l (bb + 1) 0).map toZ by rw [HL.out, stT_next])
          rw [HST.out] at O
          clear hli
          go_wp2_with fail
          go_roundw
          case rel => exact ⟨bb + 1, us, by omega, by go_num, O, B⟩
          case measure => simp [intOf]; omega
    · obtain rfl : bb = 32 := by omega
      rw [stT_fin] at O
      have hS := HS.out _ B.out
      have HALL := Lib.hid (finT_all (l := l) (fun x hx => hS.ok x hx) (fun x hx => runM_trn hS.run hx))
      have HSO := Lib.hid (fun (W : World) (us : List Value) (ts : List (List Int)) (k : Below g w3 W) (o : OL W g (g + 1) us ts) (h3 : ts.length = 3) => (show Calls Try.prog 23 #[jv jA L jc wt, .slice (some ⟨g, 0, none⟩) 3 3] W fun e w' => e = .returned (RB (sortedB l ts, 0)) ∧ Below W.heap.size W w' from by
        have := sorted_any l jA jc wt ts (some ⟨g, 0, none⟩) 3 W (HS.out W k).row o.pp (by rw [h3]; decide)
        rw [← HL.out, h3] at this
        have e : sortE l wt ts = (sortedB l ts, 0) := if_pos (HS.out W k).val
        rwa [e] at this))
      have hso := HSO.out wr vs _ B.out O.out rfl
      rw [sorted_good (finT_good l) HALL.out] at hso
      have HS1 := Lib.hid hso
      obtain ⟨j0, j1, jl⟩ := HJB.out _ B.out
      clear hlt hS hso
      go_wp2_with fail
      refine HS1.out.mono ?_
      rintro e w5 ⟨rfl, B5⟩
      have O5 := Lib.hid (O.out.below B5)
      have BB := Lib.hid (B.out.trans (B5.mono (Nat.le_of_lt O.out.lt)))
      clear HS1 B5 O B j0 j1 jl
      obtain ⟨j0, j1, jl⟩ := HJB.out _ BB.out
      go_wp2_with fail
      clear j0 j1 jl
      go_loopw [65] (fun iv wr => ∃ n : Nat, n ≤ 3 ∧ iv = .int .i64 (n : Int) ∧ Hid (OL wr g (g + 1) vs ((finT l).map toZ)) ∧ Hid (Below g w3 wr)) (fun iv _ => 3 - (intOf iv).toNat)
      case atStart => exact ⟨0, by omega, rfl, O5, BB⟩
      case round =>
        clear O5 BB
        obtain ⟨n, hn, rfl, O, B⟩ := hrel
        by_cases hlt : n < 3
        · obtain ⟨xs, hxs⟩ : ∃ xs, (finT l)[n]? = some xs := ⟨_, List.getElem?_eq_getElem (by unfold finT; simpa using hlt)⟩
          obtain ⟨v, hv⟩ : ∃ v, vs[n]? = some v := ⟨_, List.getElem?_eq_getElem (by rw [O.out.len]; unfold finT; simpa using hlt)⟩
          have HXS := Lib.hid hxs
          have HV := Lib.hid hv
          have HT := Lib.hid (show ((finT l).map toZ)[n]? = some (toZ xs) by rw [List.getElem?_map, hxs]; rfl)
          have HGD := Lib.hid (finT_good l n xs hxs)
          obtain ⟨vA, vc, rfl, _, _, hvm, hvb⟩ := (O.out.own n v _ hv HT.out).slice
          rw [toZ_len] at hvm hvb
          obtain ⟨M, hM⟩ : ∃ M, M = xs.length := ⟨_, rfl⟩
          have HM := Lib.hid hM
          rw [toZ_len, ← hM] at HV
          rw [← hM] at hvm hvb
          have HVB := Lib.hid (show 0 < M → ∃ h, vA = some ⟨h, 0, none⟩ from fun h0 => by obtain ⟨h, e, _⟩ := hvb h0; exact ⟨h, e⟩)
          have hvm' : M ≤ 9223372036854775807 := hvm
          have hM14 : M ≤ 14 := by
            have h1 := List.Nodup.length_le_of_subset HGD.out.nod (l₂ := List.range l.length) (fun x hx => List.mem_range.2 (HGD.out.mem x hx).1)
            rw [List.length_range, ← HL.out] at h1
            omega
          have hn3 : (n : Int) < 3 := by omega
          clear hxs hv hM hvb hvm
          go_wp2_with fail
          go_loopw [12] (fun iv wi => ∃ i : Nat, i ≤ M ∧ iv = .int .i64 (i : Int) ∧ Hid (OL wi g (g + 1) vs ((finT l).map toZ)) ∧ Hid (Below g w3 wi)) (fun iv _ => M - (intOf iv).toNat)
          case atStart => exact ⟨0, by omega, rfl, O, B⟩
          case round =>
            clear O B
            obtain ⟨i, hi, rfl, O, B⟩ := hrel
            have hct := O.out.cell HV.out
            by_cases hli : i + 1 < M
            · obtain ⟨h, rfl⟩ := HVB.out (by omega)
              have hnum := O.out.num HV.out HT.out (by rw [toZ_len, ← HM.out])
              have hxa := toZ_at xs (k := i) (by rw [← HM.out]; omega)
              have hxb := toZ_at xs (k := i + 1) (by rw [← HM.out]; exact hli)
              have hal := (HGD.out.mem _ (getD_memN (show i < xs.length by rw [← HM.out]; omega))).1
              have hbl := (HGD.out.mem _ (getD_memN (show i + 1 < xs.length by rw [← HM.out]; exact hli))).1
              have HSW := Lib.hid (swap_sorted (finT_good l) HALL.out HXS.out (i := i) (by rw [← HM.out]; exact hli))
              obtain ⟨a, ha⟩ : ∃ a, a = xs.getD i 0 := ⟨_, rfl⟩
              obtain ⟨b', hb'⟩ : ∃ b, b = xs.getD (i + 1) 0 := ⟨_, rfl⟩
              rw [← ha] at hxa hal HSW
              rw [← hb'] at hxb hbl HSW
              rw [← HL.out] at hal hbl
              have ca := hnum.1 i (by omega)
              have cb := hnum.1 (i + 1) hli
              rw [hxa] at ca
              rw [hxb] at cb
              have HXA := Lib.hid hxa
              have HXB := Lib.hid hxb
              have hi1 : (i : Int) < (M : Int) := by omega
              have hi2 : (i : Int) + 1 < (M : Int) := by omega
              have hi0 : (0 : Int) ≤ (i : Int) := by omega
              have hi3 : (0 : Int) ≤ (i : Int) + 1 := by omega
              have htn : ((i : Int) + 1).toNat = i + 1 := by omega
              have hwr : IntKind.i64.wrap (i : Int) = (i : Int) := by simp [IntKind.wrap, IntKind.bits, IntKind.signed]; omega
              have HBA := Lib.hid (show g ≤ h from Nat.le_of_lt hnum.2.2)
              clear ha hb' hxa hxb hnum
              go_upto_region 22 with fail
              go_quiet (fail)
              clear ca cb hct
              have O2 := Lib.hid (O.out.drewN nq)
              have B2 := Lib.hid (show Below g w3 (wr.drewN nq) from bdn B.out)
              generalize wr.drewN nq = W2 at *
              have hct := O2.out.cell HV.out
              obtain ⟨hn1, hn2, -⟩ := O2.out.num HV.out HT.out (by rw [toZ_len, ← HM.out])
              have ca := hn1 i (by omega)
              have cb := hn1 (i + 1) hli
              rw [HXA.out] at ca
              rw [HXB.out] at cb
              have fa := hn2 i
              have fb := hn2 (i + 1)
              have d1 : (W2.setCell ⟨h, i, none⟩ (.int .i64 (b' : Int))).cell? ⟨h, i + 1, none⟩ = some (.int .i64 (b' : Int)) := (World.cell?_setCell_other _ _ _ _ (by simp)).trans cb
              have d2 : (W2.setCell ⟨h, i + 1, none⟩ (.int .i64 (a : Int))).cell? ⟨h, i, none⟩ = some (.int .i64 (a : Int)) := (World.cell?_setCell_other _ _ _ _ (by simp)).trans ca
              have HOA := Lib.hid (O2.out.store2 HV.out HT.out (by rw [toZ_len, ← HM.out]) i (i + 1) (b' : Int) (a : Int))
              have HOB := Lib.hid (O2.out.store2 HV.out HT.out (by rw [toZ_len, ← HM.out]) (i + 1) i (a : Int) (b' : Int))
              rw [List.set_comm _ _ (by omega : i + 1 ≠ i)] at HOB
              have HBB := Lib.hid ((B2.out.setCell (p := ⟨h, i, none⟩) HBA.out (.int .i64 (b' : Int))).setCell (p := ⟨h, i + 1, none⟩) HBA.out (.int .i64 (a : Int)))
              have HBC := Lib.hid ((B2.out.setCell (p := ⟨h, i + 1, none⟩) HBA.out (.int .i64 (a : Int))).setCell (p := ⟨h, i, none⟩) HBA.out (.int .i64 (b' : Int)))
              clear hn1 hn2
              go_upto_region 23 with fail
              go_cut [13] (fun va wx => va = .int .i64 (a : Int) ∧ Hid (OL wx g (g + 1) vs (((finT l).map toZ).set n (((toZ xs).set i (b' : Int)).set (i + 1) (a : Int)))) ∧ Hid (Below g w3 wx))
              case first =>
                go_region
                all_goals
                  go_wp2_with fail
                  go_meet
                  case rel => exact ⟨rfl, by first | exact Lib.hid (HOA.out.drewN 1) | exact Lib.hid (HOB.out.drewN 1), by first | exact Lib.hid (bdn (n := 1) HBB.out) | exact Lib.hid (bdn (n := 1) HBC.out)⟩
              case rest =>
                clear O2 B2 hct ca cb fa fb d1 d2 HOA HOB HBB HBC O B
                obtain ⟨rfl, O, B⟩ := hcut
                obtain ⟨j0, j1, jl⟩ := HJB.out _ B.out
                have hso := HSO.out wc vs _ B.out O.out (by rw [List.length_set]; rfl)
                rw [HSW.out] at hso
                have HS2 := Lib.hid hso
                clear hso
                go_wp2_with fail
                refine HS2.out.mono ?_
                rintro e w7 ⟨rfl, B7⟩
                have O7 := Lib.hid (O.out.below B7)
                have B8 := Lib.hid (B.out.trans (B7.mono (Nat.le_of_lt O.out.lt)))
                clear O B B7 HS2 j0 j1 jl
                obtain ⟨t', ht'⟩ : ∃ t', t' = ((toZ xs).set i (b' : Int)).set (i + 1) (a : Int) := ⟨_, rfl⟩
                have hxl : (toZ xs).length = M := by rw [toZ_len, ← HM.out]
                have htl : t'.length = M := by rw [ht', List.length_set, List.length_set]; exact hxl
                have hta : t'.getD i 0 = (b' : Int) := by rw [ht', getD_set_other (by omega), getD_set_same (by rw [hxl]; omega)]
                have htb : t'.getD (i + 1) 0 = (a : Int) := by rw [ht', getD_set_same (by rw [List.length_set, hxl]; exact hli)]
                have hsb : (t'.set i (a : Int)).set (i + 1) (b' : Int) = toZ xs := by rw [ht']; exact swap_back (by rw [hxl]; exact hli) _ _ HXA.out HXB.out
                rw [← ht'] at O7
                have hnt : n < ((finT l).map toZ).length := (List.getElem?_eq_some_iff.1 HT.out).1
                have hT2 : (((finT l).map toZ).set n t')[n]? = some t' := by rw [List.getElem?_set, if_pos rfl, if_pos hnt]
                have hbk : (((finT l).map toZ).set n t').set n (toZ xs) = (finT l).map toZ := by
                  rw [List.set_set]
                  refine List.ext_getElem? fun j => ?_
                  rw [List.getElem?_set]
                  by_cases e : n = j
                  · subst e; rw [if_pos rfl, if_pos hnt]; exact HT.out.symm
                  · rw [if_neg e]
                have hct := O7.out.cell HV.out
                obtain ⟨hn1, hn2, -⟩ := O7.out.num HV.out hT2 htl.symm
                have ca := hn1 i (by omega)
                have cb := hn1 (i + 1) hli
                rw [hta] at ca
                rw [htb] at cb
                have fa := hn2 i
                have fb := hn2 (i + 1)
                have d1 : (w7.setCell ⟨h, i, none⟩ (.int .i64 (a : Int))).cell? ⟨h, i + 1, none⟩ = some (.int .i64 (a : Int)) := (World.cell?_setCell_other _ _ _ _ (by simp)).trans cb
                have d2 : (w7.setCell ⟨h, i + 1, none⟩ (.int .i64 (b' : Int))).cell? ⟨h, i, none⟩ = some (.int .i64 (b' : Int)) := (World.cell?_setCell_other _ _ _ _ (by simp)).trans ca
                have HOA := Lib.hid (O7.out.store2 HV.out hT2 htl.symm i (i + 1) (a : Int) (b' : Int))
                have HOB := Lib.hid (O7.out.store2 HV.out hT2 htl.symm (i + 1) i (b' : Int) (a : Int))
                rw [List.set_comm _ _ (by omega : i + 1 ≠ i)] at HOB
                rw [hsb, hbk] at HOA HOB
                have HBB := Lib.hid ((B8.out.setCell (p := ⟨h, i, none⟩) HBA.out (.int .i64 (a : Int))).setCell (p := ⟨h, i + 1, none⟩) HBA.out (.int .i64 (b' : Int)))
                have HBC := Lib.hid ((B8.out.setCell (p := ⟨h, i + 1, none⟩) HBA.out (.int .i64 (b' : Int))).setCell (p := ⟨h, i, none⟩) HBA.out (.int .i64 (a : Int)))
                clear hn1 hn2 hta htb hsb hbk hT2 hnt htl hxl ht'
                go_upto_region 25 with fail
                go_cut [13] (fun va wx => va = .int .i64 (a : Int) ∧ Hid (OL wx g (g + 1) vs ((finT l).map toZ)) ∧ Hid (Below g w3 wx))
                case first =>
                  go_region
                  all_goals
                    go_wp2_with fail
                    go_meet
                    case rel => exact ⟨rfl, by first | exact Lib.hid (HOA.out.drewN 1) | exact Lib.hid (HOB.out.drewN 1), by first | exact Lib.hid (bdn (n := 1) HBB.out) | exact Lib.hid (bdn (n := 1) HBC.out)⟩
                case rest =>
                  clear O7 B8 hct ca cb fa fb d1 d2 HOA HOB HBB HBC
                  obtain ⟨rfl, O, B⟩ := hcut
                  obtain ⟨j0, j1, jl⟩ := HJB.out _ B.out
                  obtain ⟨pad, rfl, _, ba, _, bb2⟩ := (HS.out _ B.out).row.two (x := a) (y := b') (by rw [← HL.out]; exact hal) (by rw [← HL.out]; exact hbl)
                  have ha1 : (a : Int) < (L : Int) := by omega
                  have hb1 : (b' : Int) < (L : Int) := by omega
                  generalize blk l a = bx at *
                  generalize blk l b' = bY at *
                  by_cases e : bx = bY
                  · subst e
                    have h1 : (bx == bx) = true := by simp
                    rw [h1]
                    go_wp2_with fail
                    go_quiet (fail)
                    go_wp2_with fail
                    go_roundw
                    case rel => exact ⟨i + 1, by omega, by go_num, Lib.hid (O.out.drewN _), Lib.hid (bdn B.out)⟩
                    case measure => simp [intOf]; omega
                  · have h1 : (bx == bY) = false := by simpa using e
                    rw [h1]
                    go_wp2_with fail
                    go_quiet (fail)
                    go_wp2_with fail
                    go_roundw
                    case rel => exact ⟨i + 1, by omega, by go_num, Lib.hid (O.out.drewN _), Lib.hid (bdn B.out)⟩
                    case measure => simp [intOf]; omega
            · obtain hlm : ¬ (i : Int) + 1 < (M : Int) := by omega
              go_wp2_with fail
              go_roundw
              case rel => exact ⟨n + 1, by omega, by go_num, O, B⟩
              case measure => simp [intOf]; omega
        · obtain rfl : n = 3 := by omega
          have HB := Lib.hid (HS.out _ B.out).bel
          clear hlt B O
          go_wp2_with fail
          refine (sane_any _).mono ?_
          rintro e w6 ⟨rfl, B6⟩
          have HB6 := Lib.hid (HB.out.trans (B6.mono HB.out.size))
          clear B6
          go_wp2_with fail
          go_ret
          exact ⟨rfl, HB6.out⟩
theorem sorts_law (a : Option Addr) (len cap : Nat) (zs : List Int) (w : World) (h : IsRow .i64 w a len cap zs) :
    Calls Try.prog 8 #[.slice a len cap] w fun e w' => e = .returned (.bool true) ∧ Below w.heap.size w w' := by
  obtain ⟨l, rfl, h1, h2, h3⟩ := h.row
  exact sorts_walk a cap l w h1 h2 h3
end Go.Proofs.Ythedalfokekbkaa
