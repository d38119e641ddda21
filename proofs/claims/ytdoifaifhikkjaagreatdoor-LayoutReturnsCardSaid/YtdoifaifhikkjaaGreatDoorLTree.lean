/-
  Stage 9: the first error of a layout whose elements have none (the program).
-/
import Derived.Test.YtdoifaifhikkjaaGreatDoorLPlace
import Derived.Test.YtdoifaifhikkjaaGreatDoorLDor
set_option linter.unusedSimpArgs false
set_option linter.unusedVariables false
namespace Go.Proofs.YtdoifaifhikkjaaGreatDoor
open Go.RowKit Go.Lib

theorem infoIntL : (Tryz.prog.info? 3).map (fun i => (i.zero, i.size, i.bytes)) = some (some (.int .i64 0), 1, 8) := by kernel_rfl
theorem make_intsL (w : World) (X : Nat) (hX : X ≤ 1000) : (Instr.makeSlice 22 (.int .i64 (X : Int)) (.int .i64 (X : Int))).run Tryz.prog w = .ok (.slice (some ⟨w.heap.size, 0, none⟩) X X) (w.alloc (.cells ((List.replicate X 0).map (Value.int .i64)).toArray 3)) := by
  obtain ⟨i0, hi, hz0, hz1, hz2⟩ := info_parts infoIntL
  have h := run_make (P := Tryz.prog) w 22 3 i0 (.int .i64 0) Tryz.underlying22 hi hz0 .i64 .i64 (X : Int) (X : Int) (by omega) (Int.le_refl _) (by rw [hz2]; omega) (by omega)
  rw [hz1, Int.toNat_natCast] at h
  have e : madeCells (Value.int .i64 0).cells (X * 1) = ((List.replicate X 0).map (Value.int .i64)).toArray := by
    rw [Nat.mul_one, List.map_replicate]
    apply Array.ext'
    refine List.ext_getElem? fun j => ?_
    unfold madeCells
    by_cases h : j < X
    · simp [h, Nat.mod_one, Value.cells]
    · simp [h]
  rw [e] at h
  exact h
theorem Own.laidL (w : World) (base : Nat) (hb : base ≤ w.heap.size) (zs : List Int) (n : Nat) (hn : zs.length = n) (hm : n ≤ 1000) : Own .i64 3 (w.alloc (.cells (zs.map (Value.int .i64)).toArray 3)) base (.slice (some ⟨w.heap.size, 0, none⟩) n n) zs := by
  subst hn
  refine ⟨by simp, Or.inr ⟨w.heap.size, zs.length, (zs.map (Value.int .i64)).toArray, rfl, hb, ?_, Nat.le_refl _, by unfold maxLen; omega, by simp, ?_⟩⟩
  · show (w.heap.push _)[w.heap.size]? = _
    rw [Array.getElem?_push, if_pos rfl]
  · rw [Nat.mul_one]; exact List.take_of_length_le (by simp)
/-- How many children the elements have, by the first k of them. -/
def kidL (l : List El) (k n : Nat) : List Int := (List.range n).map fun i => (kids (l.take k) i : Int)
theorem kidL_len (l : List El) (k n : Nat) : (kidL l k n).length = n := by unfold kidL; simp
theorem kidL_zero (l : List El) (n : Nat) : kidL l 0 n = List.replicate n 0 := by
  refine List.ext_getElem? fun j => ?_
  unfold kidL
  by_cases h : j < n
  · simp [h, kids]
  · simp [h]
theorem kidL_get {l : List El} {k n i : Nat} (h : i < n) : (kidL l k n).getD i 0 = (kids (l.take k) i : Int) := by
  unfold kidL; simp [List.getD, h]
theorem kidL_skip {l : List El} {k n : Nat} {x : El} (ht : l.take (k + 1) = l.take k ++ [x]) (h0 : x.kind = 0) : kidL l (k + 1) n = kidL l k n := by
  unfold kidL
  refine List.map_congr_left fun i _ => ?_
  rw [ht, kids_snoc, if_neg (fun g => g.1 h0)]; simp
theorem kidL_set {l : List El} {k n p : Nat} {x : El} (ht : l.take (k + 1) = l.take k ++ [x]) (h0 : x.kind ≠ 0) (hp : x.par = (p : Int)) (hn : p < n) : (kidL l k n).set p ((kids (l.take k) p : Int) + 1) = kidL l (k + 1) n := by
  refine List.ext_getElem? fun j => ?_
  rw [List.getElem?_set]
  unfold kidL
  by_cases hj : p = j
  · subst hj
    rw [if_pos rfl]
    simp [hn, ht, kids_snoc, h0, hp]
  · rw [if_neg hj]
    by_cases h : j < n
    · have e : ¬ (x.kind ≠ 0 ∧ x.par = (j : Int)) := by rintro ⟨_, g⟩; rw [hp] at g; omega
      simp only [List.getElem?_map, List.getElem?_range h, Option.map_some, ht, kids_snoc, if_neg e, Nat.add_zero]
    · simp [h]
theorem fullE_all {l : List El} : ∀ (n : Nat), (∀ j, j < n → needK ((l.getD j zeroE).kind) ≤ (kids l j : Int)) → fullE l n = true
  | 0, _ => rfl
  | n + 1, h => by
    show (fullE l n && decide _) = true
    rw [fullE_all n (fun j hj => h j (by omega)), decide_eq_true (h n (by omega))]; rfl
theorem fullE_not {l : List El} {j : Nat} (h : (kids l j : Int) < needK ((l.getD j zeroE).kind)) : ∀ (n : Nat), j < n → fullE l n = false
  | 0, hj => absurd hj (by omega)
  | n + 1, hj => by
    show (fullE l n && decide _) = false
    by_cases e : j = n
    · subst e
      rw [decide_eq_false (by omega), Bool.and_false]
    · rw [fullE_not h n (by omega)]; rfl
theorem nK0 : needK 0 = 1 := by decide
theorem nK1 : needK 1 = 1 := by decide
theorem nK2 : needK 2 = 1 := by decide
theorem nK3 : needK 3 = 2 := by decide
theorem nK4 : needK 4 = 0 := by decide
/-- What validTree may rely on. -/
def TreeOk (l : List El) : Prop := ∀ (k : Nat) x, l[k]? = some x → (0 ≤ x.kind ∧ x.kind ≤ 4) ∧ (x.kind ≠ 0 → 0 ≤ x.par ∧ x.par < (l.length : Int))
set_option maxHeartbeats 3200000 in
theorem tree_any (l : List El) (A : Option Addr) (c : Nat) (w : World) (h : RRow ER w A l) (D : Dor w) (hm : l.length ≤ 128) (hT : TreeOk l) :
    Calls Tryz.prog 24 #[.slice A l.length c] w fun e w' => e = .returned (.int .i64 (treeE l)) ∧ Below w.heap.size w w' := by
  obtain ⟨L, hL⟩ : ∃ n, n = l.length := ⟨_, rfl⟩
  have HL := Lib.hid hL
  have hl : L ≤ 128 := by rw [hL]; exact hm
  have hmk := make_intsL w L (by omega)
  have HO := Own.laidL w w.heap.size (Nat.le_refl _) (List.replicate L 0) L (by simp) (by omega)
  rw [← kidL_zero l] at HO hmk
  have bel : Below w.heap.size w (w.alloc (.cells ((kidL l 0 L).map (Value.int .i64)).toArray 3)) := (Below.refl _ _).alloc (Nat.le_refl _) _
  have HT := Lib.hid hT
  have HD := Lib.hid D
  have H := Lib.hid h
  rw [← hL]
  clear hL hm hT h D
  generalize hW1 : w.alloc (.cells ((kidL l 0 L).map (Value.int .i64)).toArray 3) = w1 at HO hmk bel
  have HO' := Lib.hid HO
  have BW := Lib.hid bel
  clear HO bel hW1
  go_enter Tryz.func24, Tryz.ntmps24
  go_wp2_with fail
  go_loopw [4, 14] (fun t i wr => ∃ k : Nat, k ≤ L ∧ i = .int .i64 k ∧ t = .int .i64 (trks (l.take k) : Int) ∧ Hid (Own .i64 3 wr w.heap.size (.slice (some ⟨w.heap.size, 0, none⟩) L L) (kidL l k L)) ∧ Hid (Below w.heap.size w wr)) (fun _ i _ => L - (intOf i).toNat)
  case atStart => exact ⟨0, by omega, rfl, rfl, HO', BW⟩
  case round =>
    clear HO' BW hmk
    obtain ⟨k, hk, rfl, rfl, O, B⟩ := hrel
    by_cases hlt : k < L
    · obtain ⟨x, hx, hd, ht⟩ := drop_ex (l := l) (k := k) (by rw [← HL.out]; exact hlt)
      obtain ⟨ad, rfl, C⟩ := (H.out.below B.out).at_ hx
      obtain ⟨c0, c1, c2, c3, c4, c5, c6, c7⟩ := ESpelt.of C
      have HTk := Lib.hid ht
      have hok := HT.out k x hx
      rw [← HL.out] at hok
      have hts : (trks (l.take k) : Int) ≤ 128 := by
        have : trks (l.take k) ≤ (l.take k).length := List.length_filter_le _ _
        rw [List.length_take] at this
        omega
      have hts2 := Lib.hid (show trks (l.take (k + 1)) = trks (l.take k) + (if x.kind = 4 then 1 else 0) by rw [ht, trks_snoc])
      obtain ⟨tt, htt⟩ : ∃ tt, tt = trks (l.take k) := ⟨_, rfl⟩
      rw [← htt] at hts hts2 ⊢
      have O1 := Lib.hid (O.out.alloc (.cells #[.int .i64 x.kind, .string x.name, .int .i64 x.par, .int .i64 x.side, .int .i64 x.len, .int .i64 x.gra, .int .i64 x.cur, .int .i64 x.pow] 39))
      have B1 := Lib.hid (B.out.alloc B.out.size (.cells #[.int .i64 x.kind, .string x.name, .int .i64 x.par, .int .i64 x.side, .int .i64 x.len, .int .i64 x.gra, .int .i64 x.cur, .int .i64 x.pow] 39))
      have HX := EBlk.of (newE wr x 39 wr.heap.size rfl)
      have hc0 := HX.c0
      have hc2 := HX.c2
      have hgb : w.heap.size < wr.heap.size := (own_block O.out rfl).2
      clear C hx hd ht htt HX O B
      obtain ⟨xk, xn, xp, xs, xl, xg, xc, xo⟩ := x
      simp only at c0 c1 c2 c3 c4 c5 c6 c7 hc0 hc2 hok
      generalize hW2 : wr.alloc (.cells #[.int .i64 xk, .string xn, .int .i64 xp, .int .i64 xs, .int .i64 xl, .int .i64 xg, .int .i64 xc, .int .i64 xo] 39) = w2 at O1 B1 hc0 hc2
      by_cases k0 : xk = 0
      · have e0 : (xk != 0) = false := by rw [k0]; rfl
        have e4 : (xk == 4) = false := by rw [k0]; rfl
        have HK := Lib.hid (kidL_skip (n := L) HTk.out k0)
        have HS := Lib.hid (show trks (l.take (k + 1)) = tt by rw [hts2.out]; simp [k0])
        clear k0 hts2 hok
        go_wp2_with fail
        go_roundw
        case rel => exact ⟨k + 1, by omega, by go_num, by rw [HS.out], by rw [HK.out]; exact O1, B1⟩
        case measure => simp [intOf]; omega
      · have e0 : (xk != 0) = true := bne_iff_ne.2 k0
        obtain ⟨p, rfl⟩ : ∃ p : Nat, xp = p := ⟨xp.toNat, by have := (hok.2 k0).1; omega⟩
        have hp : p < L := by have := (hok.2 k0).2; omega
        have HK := Lib.hid (kidL_set (n := L) (p := p) HTk.out k0 rfl hp)
        have hfz := O1.out.frozen (kidL_len l k L).symm p
        have hcl := O1.out.cell (kidL_len l k L).symm p (by rw [kidL_len]; exact hp)
        rw [kidL_get hp] at hcl
        have hkb : (kids (l.take k) p : Int) ≤ 128 := by
          have : kids (l.take k) p ≤ (l.take k).length := List.length_filter_le _ _
          rw [List.length_take] at this
          omega
        have O2 := Lib.hid (O1.out.store (kidL_len l k L).symm p ((kids (l.take k) p : Int) + 1))
        have B2 := Lib.hid (B1.out.setCell (p := ⟨w.heap.size, p, none⟩) (Nat.le_refl _) (.int .i64 ((kids (l.take k) p : Int) + 1)))
        have hc0' : (w2.setCell ⟨w.heap.size, p, none⟩ (.int .i64 ((kids (l.take k) p : Int) + 1))).cell? ⟨wr.heap.size, 0, none⟩ = some (.int .i64 xk) := by
          rw [World.cell?_setCell_far _ _ _ _ (by show w.heap.size ≠ wr.heap.size; omega)]; exact hc0
        obtain ⟨z, hz⟩ : ∃ z : Int, z = kids (l.take k) p := ⟨_, rfl⟩
        rw [HK.out] at O2
        rw [← hz] at O2 B2 hc0' hcl hkb
        have hkn : 0 ≤ z := by omega
        by_cases k4 : xk = 4
        · have e4 : (xk == 4) = true := beq_iff_eq.2 k4
          have HS := Lib.hid (show trks (l.take (k + 1)) = tt + 1 by rw [hts2.out, if_pos k4])
          clear k0 k4 hts2 hok hgb hz
          go_wp2_with fail
          go_roundw
          case rel => exact ⟨k + 1, by omega, by go_num, by rw [HS.out]; go_num, O2, B2⟩
          case measure => simp [intOf]; omega
        · have e4 : (xk == 4) = false := beq_eq_false_iff_ne.2 k4
          have HS := Lib.hid (show trks (l.take (k + 1)) = tt by rw [hts2.out, if_neg k4, Nat.add_zero])
          clear k0 k4 hts2 hok hgb hz
          go_wp2_with fail
          go_roundw
          case rel => exact ⟨k + 1, by omega, by go_num, by rw [HS.out], O2, B2⟩
          case measure => simp [intOf]; omega
    · obtain rfl : k = L := by omega
      have htk : l.take k = l := by rw [HL.out]; exact List.take_length
      rw [htk]
      have O' := Lib.hid O.out
      have B' := Lib.hid B.out
      have hts : trks l ≤ 128 := by
        have : trks l ≤ l.length := List.length_filter_le _ _
        have := HL.out
        omega
      have HTK := Lib.hid htk
      obtain ⟨tt, htt⟩ : ∃ tt, tt = trks l := ⟨_, rfl⟩
      have HTT := Lib.hid htt
      rw [← htt] at hts ⊢
      clear hlt O B hk htk htt
      go_upto_region 12 with fail
      generalize wr = wo at *
      go_loopw [36] (fun i wr => ∃ j : Nat, j ≤ k ∧ i = .int .i64 j ∧ Hid (∀ q, q < j → needK ((l.getD q zeroE).kind) ≤ (kids l q : Int)) ∧ Hid (Below wo.heap.size wo wr)) (fun i _ => k - (intOf i).toNat)
      case atStart => exact ⟨0, by omega, rfl, Lib.hid (fun q hq => absurd hq (by omega)), Lib.hid (Below.refl _ _)⟩
      case round =>
        obtain ⟨j, hj, rfl, N, B⟩ := hrel
        by_cases hlt : j < k
        · have B3 := Lib.hid (B'.out.trans (B.out.mono B'.out.size))
          obtain ⟨x, hx, hd, ht⟩ := drop_ex (l := l) (k := j) (by rw [← HL.out]; exact hlt)
          obtain ⟨ad, rfl, C⟩ := (H.out.below B3.out).at_ hx
          obtain ⟨c0, c1, c2, c3, c4, c5, c6, c7⟩ := ESpelt.of C
          have hok := (HT.out j x hx).1
          have hgx : l.getD j zeroE = x := by simp [List.getD, hx]
          have hcl := (O'.out.below B.out).cell (kidL_len l k k).symm j (by rw [kidL_len]; exact hlt)
          rw [kidL_get hlt, HTK.out] at hcl
          have bel2 : Below wo.heap.size wo (wr.alloc (.cells #[.int .i64 x.kind, .string x.name, .int .i64 x.par, .int .i64 x.side, .int .i64 x.len, .int .i64 x.gra, .int .i64 x.cur, .int .i64 x.pow] 39)) := B.out.alloc B.out.size _
          have hcl2 : (wr.alloc (.cells #[.int .i64 x.kind, .string x.name, .int .i64 x.par, .int .i64 x.side, .int .i64 x.len, .int .i64 x.gra, .int .i64 x.cur, .int .i64 x.pow] 39)).cell? ⟨w.heap.size, j, none⟩ = some (.int .i64 (kids l j)) := (((Below.refl _ _).alloc (Nat.le_refl _) _).cell (lt_of_cell hcl)).trans hcl
          have HX := EBlk.of (newE wr x 39 wr.heap.size rfl)
          have hc0 := HX.c0
          have hkd : ∀ q, (wr.alloc (.cells #[.int .i64 x.kind, .string x.name, .int .i64 x.par, .int .i64 x.side, .int .i64 x.len, .int .i64 x.gra, .int .i64 x.cur, .int .i64 x.pow] 39)).cell? ⟨0, q, none⟩ = kdV[q]? := fun q => ((HD.out.below B3.out).alloc _).kd q
          have k3 := hkd 3
          have k7 := hkd 7
          have k11 := hkd 11
          have k15 := hkd 15
          have k19 := hkd 19
          have BB := Lib.hid bel2
          have HS := Lib.hid (show ∀ y : Int, y = kids l j → needK x.kind ≤ y → ∀ q, q < j + 1 → needK ((l.getD q zeroE).kind) ≤ (kids l q : Int) from fun y hy h q hq => by
            by_cases e : q = j
            · subst e; rw [hgx, ← hy]; exact h
            · exact N.out q (by omega))
          have HF := Lib.hid (show ∀ y : Int, y = kids l j → y < needK x.kind → treeE l = 13 from fun y hy h => by
            unfold treeE
            rw [if_pos (fullE_not (j := j) (by rw [hgx, ← hy]; exact h) _ (by rw [← HL.out]; exact hlt))])
          obtain ⟨z, hz⟩ : ∃ z : Int, z = kids l j := ⟨_, rfl⟩
          rw [← hz] at hcl2
          have HZ := Lib.hid hz
          clear hcl hx hd ht C hgx hkd bel2 HX hz
          obtain ⟨xk, xn, xp, xs, xl, xg, xc, xo⟩ := x
          simp only at c0 c1 c2 c3 c4 c5 c6 c7 hc0 hok HS HF
          have hkk : xk = 0 ∨ xk = 1 ∨ xk = 2 ∨ xk = 3 ∨ xk = 4 := by omega
          clear hok
          simp only [kdV, List.getElem?_cons_succ, List.getElem?_cons_zero] at k3 k7 k11 k15 k19
          rcases hkk with rfl | rfl | rfl | rfl | rfl
          all_goals
            go_upto_region 14 with fail
            go_quiet (fail)
            clear k3 k7 k11 k15 k19 c0 c1 c2 c3 c4 c5 c6 c7 hc0 hcl2
            generalize hW2 : World.drewN (wr.alloc _) nq = w2
            have BB2 := Lib.hid (show Below wo.heap.size wo w2 by rw [← hW2]; exact bdn BB.out)
            clear hW2 BB
            go_wp2_with fail
          all_goals
            first
            | (go_ret
               have hv := HF.out z HZ.out (by first | (rw [nK0]; omega) | (rw [nK1]; omega) | (rw [nK2]; omega) | (rw [nK3]; omega) | (rw [nK4]; omega))
               exact ⟨ret_int hv.symm, B'.out.trans (BB2.out.mono B'.out.size)⟩)
            | (have hn := HS.out z HZ.out (by first | (rw [nK0]; omega) | (rw [nK1]; omega) | (rw [nK2]; omega) | (rw [nK3]; omega) | (rw [nK4]; omega))
               have HN := Lib.hid hn
               clear hn HS HF
               go_roundw
               case rel => exact ⟨j + 1, by omega, by go_num, HN, BB2⟩
               case measure => simp [intOf]; omega)
        · obtain rfl : j = k := by omega
          have HV := Lib.hid (show treeE l = (if 32 < tt then 3 else 0) by
            unfold treeE
            rw [if_neg (by rw [fullE_all l.length (fun q hq => N.out q (by rw [HL.out]; exact hq))]; exact fun g => by cases g), ← HTT.out])
          have BB := Lib.hid (B'.out.trans (B.out.mono B'.out.size))
          clear hlt N B
          by_cases ht : 32 < tt
          · have HV2 := Lib.hid (HV.out.trans (if_pos ht))
            have h32 : (32 : Int) < (tt : Int) := by omega
            clear ht
            go_wp2_with fail
            go_ret
            exact ⟨ret_int HV2.out.symm, BB.out⟩
          · have HV2 := Lib.hid (HV.out.trans (if_neg ht))
            have h32 : ¬ (32 : Int) < (tt : Int) := by omega
            clear ht
            go_wp2_with fail
            go_ret
            exact ⟨ret_int HV2.out.symm, BB.out⟩
end Go.Proofs.YtdoifaifhikkjaaGreatDoor
