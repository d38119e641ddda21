/-
  Stage 11: the law's order: lists of the items of each train, mostly sorted.
-/
import Derived.Test.YtpimdcljecipeaaJOlA
import Derived.Test.YtpimdcljecipeaaJBack
import Derived.Test.YtpimdcljecipeaaJSpoil
import Derived.Test.YtpimdcljecipeaaMkFrom
set_option linter.unusedSimpArgs false
set_option linter.unusedVariables false
namespace Go.Proofs.Ytpimdcljecipeaa
open Go.RowKit Go.Lib

/-- Three lists, none longer than M. -/
def LB (ts : List (List Int)) (M : Nat) : Prop := ts.length = 3 ∧ ∀ (k : Nat) t, ts[k]? = some t → t.length ≤ M
theorem LB.app {ts : List (List Int)} {M : Nat} (h : LB ts M) {k : Nat} {t : List Int} (ht : ts[k]? = some t) (y : Int) : LB (ts.set k (t ++ [y])) (M + 1) := by
  refine ⟨by rw [List.length_set]; exact h.1, fun j u hu => ?_⟩
  rw [List.getElem?_set] at hu
  by_cases e : k = j
  · rw [if_pos e] at hu
    split at hu
    · injection hu with hu
      rw [← hu, List.length_append]
      have := h.2 k t ht
      simp; omega
    · cases hu
  · rw [if_neg e] at hu
    have := h.2 j u hu
    omega
theorem LB.more {ts : List (List Int)} {M N : Nat} (h : LB ts M) (k : M ≤ N) : LB ts N := ⟨h.1, fun j t ht => Nat.le_trans (h.2 j t ht) k⟩
theorem appI_belowG {g base : Nat} {w0 W w' : World} {v v' : Value} {t : List Int} {y : Int} (A : AppI base v t y W v' w') (h : Below g w0 W) (O : Own .i64 3 W base v t) (hg : g ≤ base) (hW : g ≤ W.heap.size) : Below g w0 w' :=
  h.grown A.2.1 hW (fun k hk => Nat.le_trans hg (own_block O hk).1)
def tlO (i : Nat) : Bool := !(i == 3 || i == 8 || i == 14 || i == 17 || i == 18 || i == 22 || i == 25)
theorem pp_of_rows {w : World} {base n : Nat} {v : Value} {vs : List Value} {ts : List (List Int)} (h : w.ownsRow base 22 1 v n vs) (hn : 0 < n) (hl : vs.length = ts.length) (own : ∀ (k : Nat) u t, vs[k]? = some u → ts[k]? = some t → ∃ b, Own .i64 3 w b u t) : ∃ A c, v = .slice A n c ∧ PP w A ts := by
  rcases h.2 with ⟨rfl, hz⟩ | ⟨g, cap, cur, rfl, hb, hblk, hnc, hcm, hsz, htk⟩
  · exact absurd hz (by omega)
  · refine ⟨some ⟨g, 0, none⟩, cap, rfl, fun k p hk => ?_⟩
    have hkl : k < vs.length := by rw [hl]; exact (List.getElem?_eq_some_iff.1 hk).1
    have hv := List.getElem?_eq_getElem hkl
    obtain ⟨b, O⟩ := own k _ p hv hk
    obtain ⟨A, c, e, R, _, hm, _⟩ := O.slice
    have hlt : g < w.heap.size := (Array.getElem?_eq_some_iff.1 hblk).1
    refine ⟨_, rfl, hlt, A, c, ?_, R, hm⟩
    rw [add_own, ← e, World.ownsRow.cellAt h k (by have := h.1; omega), hv]
theorem OL.rows {w : World} {g base : Nat} {vs : List Value} {ts : List (List Int)} (h : OL w g base vs ts) (h3 : vs.length = 3) (b : Nat) (hb : b ≤ g) : w.ownsRow b 22 1 (.slice (some ⟨g, 0, none⟩) 3 3) 3 vs :=
  ⟨by rw [h3], Or.inr ⟨g, 3, vs.toArray, rfl, hb, h.blk, Nat.le_refl _, by decide, by simp [h3], by simp [h3, List.take_of_length_le]⟩⟩
/-- What order leaves. -/
def OrdPost (m N : Nat) (w : World) (e : Ending) (w' : World) : Prop :=
  ∃ oA n oc ts, e = .returned (.slice oA n oc) ∧ PP w' oA ts ∧ n = ts.length ∧ n ≤ 4 ∧ IsMk w' m N ∧ Moves m w w'
set_option maxRecDepth 100000 in
set_option maxHeartbeats 3200000 in
theorem order_any (m N : Nat) (l : List It) (A : Option Addr) (c L : Nat) (wt : Int) (hL : L = l.length) (hl : L ≤ 96) (w : World) (K : IsMk w m N) (hN : N ≤ 900000) (hi : IOwn 44 w (m + 1) (.slice A l.length c) l) :
    Calls Try.prog 9 #[.pointer (some ⟨m, 0, none⟩), jv A L c wt] w (OrdPost m (N + 6) w) := by
  have HL := Lib.hid hL
  have HI := Lib.hid hi.irow
  have HK := Lib.hid K
  have HM := Lib.hid K.lt
  have J0 := Lib.hid (JBox.new (w := w) (A := A) (n := L) (c := c) (wt := wt) w.heap.size rfl)
  have B0 := Lib.hid ((Below.refl w.heap.size w).alloc (Nat.le_refl _) (.cells #[.slice A L c, .int .i64 wt] 25))
  obtain ⟨b, hb⟩ : ∃ b, b = w.heap.size := ⟨_, rfl⟩
  have HB := Lib.hid hb
  clear hL K hi
  go_enter Try.func9, Try.ntmps9
  go_upto_region 1 with fail
  rw [← hb] at J0 ⊢
  generalize w.alloc (.cells #[.slice A L c, .int .i64 wt] 25) = w3 at *
  have HMB := Lib.hid (show m < b by rw [hb]; exact HM.out)
  clear hb
  have hmk := make_lists w3
  have O0 := Lib.hid (OL.new w3)
  have BB0 := Lib.hid ((Below.refl w3.heap.size w3).alloc (Nat.le_refl _) (.cells #[.slice none 0 0, .slice none 0 0, .slice none 0 0] 22))
  have LB0 := Lib.hid (show LB [[], [], []] 0 from ⟨rfl, fun k t h => by
    match k with
    | 0 => injection h with h; subst h; exact Nat.le_refl _
    | 1 => injection h with h; subst h; exact Nat.le_refl _
    | 2 => injection h with h; subst h; exact Nat.le_refl _
    | k + 3 => cases h⟩)
  obtain ⟨g, hg⟩ : ∃ g, g = w3.heap.size := ⟨_, rfl⟩
  have HG := Lib.hid hg
  rw [← hg] at hmk O0 BB0
  generalize w3.alloc (.cells #[.slice none 0 0, .slice none 0 0, .slice none 0 0] 22) = w4 at *
  have HBG := Lib.hid (show b < g by rw [hg]; exact J0.out.lt)
  have HJB := Lib.hid (show ∀ W, Below g w3 W → JBox W b A L c wt from fun W k => J0.out.below k HBG.out)
  have HIR := Lib.hid (show ∀ W, Below g w3 W → IRow W A l from fun W k => HI.out.below (B0.out.trans ((show Below w3.heap.size w3 W by rw [← HG.out]; exact k).mono B0.out.size)))
  clear hg
  go_wp2_with fail
  clear hmk
  go_loopw [6] (fun iv wr => ∃ (bb : Nat) (vs : List Value) (ts : List (List Int)), bb ≤ 32 ∧ iv = .int .i64 (bb : Int) ∧ Hid (LB ts (96 * bb)) ∧ Hid (OL wr g (g + 1) vs ts) ∧ Hid (Below g w3 wr)) (fun iv _ => 32 - (intOf iv).toNat)
  case atStart => exact ⟨0, _, _, by omega, rfl, LB0, O0, BB0⟩
  case round =>
    clear O0 BB0 LB0
    obtain ⟨bb, vs, ts, hbb, rfl, LBB, O, B⟩ := hrel
    by_cases hlt : bb < 32
    · have hb32 : (bb : Int) < 32 := by omega
      have hbd : decide ((bb : Int) < 32) = true := decide_eq_true hb32
      go_wp2_with fail
      go_loopw [7] (fun iv wi => ∃ (i : Nat) (us : List Value) (ss : List (List Int)), i ≤ L ∧ iv = .int .i64 (i : Int) ∧ Hid (LB ss (96 * bb + i)) ∧ Hid (OL wi g (g + 1) us ss) ∧ Hid (Below g w3 wi)) (fun iv _ => L - (intOf iv).toNat)
      case atStart => exact ⟨0, vs, ts, by omega, rfl, LBB, O, B⟩
      case round =>
        clear O B LBB
        obtain ⟨i, us, ss, hi, rfl, LBB, O, B⟩ := hrel
        obtain ⟨j0, j1, jl⟩ := HJB.out _ B.out
        by_cases hli : i < L
        · obtain ⟨ad, rfl, C⟩ := (HIR.out _ B.out).at_ i (by rw [← HL.out]; exact hli)
          obtain ⟨c0, c1, -, -⟩ := C.spelt
          obtain ⟨⟨t, kb, r, gg⟩, hp⟩ : ∃ p, p = l.getD i it0 := ⟨_, rfl⟩
          rw [← hp] at c0 c1
          have hli' : (i : Int) < (L : Int) := by omega
          clear hp C
          by_cases e : kb = (bb : Int) ∧ t < 3 ∧ 0 ≤ t
          · obtain ⟨rfl, e2, e3⟩ := e
            obtain ⟨tn, rfl⟩ := Int.eq_ofNat_of_zero_le e3
            have hbe : ((bb : Int) == (bb : Int)) = true := by simp
            have htl : tn < us.length := by rw [O.out.len, LBB.out.1]; omega
            obtain ⟨v, hv⟩ : ∃ v, us[tn]? = some v := ⟨_, List.getElem?_eq_getElem htl⟩
            obtain ⟨xs, hxs⟩ : ∃ xs, ss[tn]? = some xs := ⟨_, List.getElem?_eq_getElem (by rw [← O.out.len]; exact htl)⟩
            have HV := Lib.hid hv
            have HXS := Lib.hid hxs
            have HLB := Lib.hid (LBB.out.app hxs (i : Int))
            have HXL := Lib.hid (show xs.length + 1 ≤ 1000000000 by have := LBB.out.2 tn xs hxs; omega)
            have HOW := Lib.hid (O.out.own tn v _ hv hxs)
            have hct := O.out.cell hv
            have ht3' : (tn : Int) < 3 := e2
            clear hv hxs htl
            go_wp2_with (first | (at_builtin; refine wpList_appI _ rfl (.tmp 61) (.tmp 63) rfl (g + 1) v xs rfl (HOW.out.alloc _) (i : Int) wr rfl _ rfl 1 rfl HXL.out (le_allocW (w := wr) O.out.le) ?_; intro v5 w5 A5; have hA5 := A5.2.2; obtain ⟨g5, cp5, rfl, -⟩ := hA5; have hOA := (O.out.below ((Below.refl _ _).alloc (Nat.le_refl _) (.cells #[.int .i64 (i : Int)] 3))).app HV.out HXS.out A5; have hB5 := Lib.hid (appI_belowG A5 (B.out.alloc (Nat.le_of_lt O.out.lt) (.cells #[.int .i64 (i : Int)] 3)) (HOW.out.alloc _) (Nat.le_succ g) (le_allocW (w := wr) (Nat.le_of_lt O.out.lt))); obtain ⟨c5, f5, O5⟩ := hOA; have HO5 := Lib.hid O5; clear O5 A5))
            have B6 := Lib.hid (hB5.out.setCell (p := ⟨g, tn, none⟩) (Nat.le_refl g) (.slice (some ⟨g5, 0, none⟩) (xs.length + 1) cp5))
            go_roundw
            case rel => exact ⟨i + 1, _, _, by omega, by go_num, HLB, HO5, B6⟩
            case measure => simp [intOf]; omega
          · have LB1 := Lib.hid (LBB.out.more (show 96 * bb + i ≤ 96 * bb + (i + 1) by omega))
            by_cases e1 : kb = (bb : Int)
            · subst e1
              have hbe : ((bb : Int) == (bb : Int)) = true := by simp
              by_cases e2 : t < 3
              · have e3 : ¬ 0 ≤ t := fun g => e ⟨rfl, e2, g⟩
                clear e
                go_wp2_with fail
                go_roundw
                case rel => exact ⟨i + 1, us, ss, by omega, by go_num, LB1, O, B⟩
                case measure => simp [intOf]; omega
              · clear e
                go_wp2_with fail
                go_roundw
                case rel => exact ⟨i + 1, us, ss, by omega, by go_num, LB1, O, B⟩
                case measure => simp [intOf]; omega
            · have hbe : (kb == (bb : Int)) = false := by simpa using e1
              clear e e1
              go_wp2_with fail
              go_roundw
              case rel => exact ⟨i + 1, us, ss, by omega, by go_num, LB1, O, B⟩
              case measure => simp [intOf]; omega
        · obtain rfl : i = L := by omega
          have LB1 := Lib.hid (LBB.out.more (show 96 * bb + i ≤ 96 * (bb + 1) by omega))
          clear hli
          go_wp2_with fail
          go_roundw
          case rel => exact ⟨bb + 1, us, ss, by omega, by go_num, LB1, O, B⟩
          case measure => simp [intOf]; omega
    · have hb32 : ¬ (bb : Int) < 32 := by omega
      have BW := Lib.hid (B0.out.trans ((show Below w3.heap.size w3 wr by rw [← HG.out]; exact B.out).mono B0.out.size))
      have K5 := Lib.hid (HK.out.stays' BW.out)
      have V5 := Lib.hid (Moves.of_below (m := m) BW.out)
      have HMG := Lib.hid (Nat.lt_trans HMB.out HBG.out)
      have J5 := Lib.hid (HJB.out _ B.out)
      go_wp2_with fail
      clear hb32 hlt BW B
      refine (next_any m N 3 wr K5.out (by omega) (by omega) (by omega)).mono ?_
      rintro e w5 ⟨v, rfl, v1, v2, k6, m6⟩
      have K6 := Lib.hid k6
      have V6 := Lib.hid (V5.out.trans m6)
      have O6 := Lib.hid (O.out.moves m6 HMG.out)
      have J6 := Lib.hid (J5.out.moves m6 (by have := HMB.out; omega))
      clear k6 m6 K5 V5 O J5
      go_upto_if 68 with fail
      obtain ⟨cb, hcb⟩ : ∃ cb, cb = (v == 0) := ⟨_, rfl⟩
      rw [← hcb]
      clear hcb
      go_cut [9, 10, 11] from 69 to 109 (fun _ _ _ wx => Hid (∃ ts', OL wx g (g + 1) vs ts' ∧ ts'.length = 3) ∧ Hid (IsMk wx m (N + 3)) ∧ Hid (Moves m w wx) ∧ Hid (JBox wx b A L c wt))
      case first =>
        cases cb
        · have LL := Lib.hid LBB.out.1
          go_wp2_with fail
          go_meet
          case rel => exact ⟨Lib.hid ⟨_, O6.out, LL.out⟩, Lib.hid (K6.out.more (by omega)), V6, J6⟩
        · skip
          go_wp2_with fail
          refine (next_any m (N + 1) 3 w5 K6.out (by omega) (by omega) (by omega)).mono ?_
          rintro e w6 ⟨t, rfl, t1, t2, k7, m7⟩
          have K7 := Lib.hid k7
          have V7 := Lib.hid (V6.out.trans m7)
          have O7 := Lib.hid (O6.out.moves m7 HMG.out)
          have J7 := Lib.hid (J6.out.moves m7 (by have := HMB.out; omega))
          clear k7 m7 K6 V6 O6 J6
          obtain ⟨tn, rfl⟩ := Int.eq_ofNat_of_zero_le t1
          have htl : tn < vs.length := by rw [O7.out.len, LBB.out.1]; omega
          obtain ⟨u, hu⟩ : ∃ u, vs[tn]? = some u := ⟨_, List.getElem?_eq_getElem htl⟩
          obtain ⟨xs, hxs⟩ : ∃ xs, ts[tn]? = some xs := ⟨_, List.getElem?_eq_getElem (by rw [← O7.out.len]; exact htl)⟩
          have hct := O7.out.cell hu
          obtain ⟨vA, vc, eu, -, -, hvm, hvb⟩ := (O7.out.own tn u _ hu hxs).slice
          have HXL := Lib.hid (LBB.out.2 tn xs hxs)
          obtain ⟨M, hM⟩ : ∃ M, M = xs.length := ⟨_, rfl⟩
          rw [← hM] at eu hvm hvb HXL
          subst eu
          have HV := Lib.hid hu
          have HT := Lib.hid hxs
          have HMM := Lib.hid hM
          have HVB := Lib.hid (show 0 < M → ∃ h, vA = some ⟨h, 0, none⟩ from fun h0 => by obtain ⟨h, e, _⟩ := hvb h0; exact ⟨h, e⟩)
          have ht3 : (tn : Int) < 3 := by omega
          clear hu hxs hM hvm hvb htl
          by_cases hM1 : 1 < M
          · obtain ⟨h, rfl⟩ := HVB.out (by omega)
            have hM1i : (1 : Int) < (M : Int) := by omega
            have hmw : IntKind.i64.wrap ((M : Int) - 1) = (M : Int) - 1 := IntWalk.i64_in _ (by have := HXL.out; omega)
            go_wp2_with fail
            clear hct
            refine (next_any m (N + 1 + 1) ((M : Int) - 1) w6 K7.out (by omega) (by omega) (by have := HXL.out; omega)).mono ?_
            rintro e w7 ⟨iv, rfl, i1, i2, k8, m8⟩
            have K8 := Lib.hid k8
            have V8 := Lib.hid (V7.out.trans m8)
            have O8 := Lib.hid (O7.out.moves m8 HMG.out)
            have J8 := Lib.hid (J7.out.moves m8 (by have := HMB.out; omega))
            clear k8 m8 K7 V7 O7 J7
            obtain ⟨i, rfl⟩ := Int.eq_ofNat_of_zero_le i1
            have hi1 : (i : Int) < (M : Int) := by omega
            have hi2 : (i : Int) + 1 < (M : Int) := by omega
            have hi0 : (0 : Int) ≤ (i : Int) := by omega
            have hi3 : (0 : Int) ≤ (i : Int) + 1 := by omega
            have htn : ((i : Int) + 1).toNat = i + 1 := by omega
            have hwr : IntKind.i64.wrap (i : Int) = (i : Int) := IntWalk.i64_in _ (by have := HXL.out; omega)
            have hwr1 : IntKind.i64.wrap ((i : Int) + 1) = (i : Int) + 1 := IntWalk.i64_in _ (by have := HXL.out; omega)
            have HXM := Lib.hid (show M = xs.length from HMM.out)
            obtain ⟨hn1, hn2, -⟩ := O8.out.num HV.out HT.out HXM.out
            obtain ⟨xa, hxa⟩ : ∃ z, z = xs.getD i 0 := ⟨_, rfl⟩
            obtain ⟨xb, hxb⟩ : ∃ z, z = xs.getD (i + 1) 0 := ⟨_, rfl⟩
            have ca := hn1 i (by omega)
            have cb := hn1 (i + 1) (by omega)
            rw [← hxa] at ca
            rw [← hxb] at cb
            have hct := O8.out.cell HV.out
            clear hn1 hn2 hxa hxb
            go_upto_region 16 with fail
            obtain ⟨q0, e0⟩ : ∃ x, x = w7.drew := ⟨_, rfl⟩
            have D0 := show Below w7.heap.size w7 q0 from by rw [e0]; exact (Below.refl _ _).drew
            have O9 := Lib.hid (O8.out.below D0)
            have F0 : q0.cell? ⟨g, tn, none⟩ = some (.slice (some ⟨h, 0, none⟩) M vc) ∧ q0.cell? ⟨h, i, none⟩ = some (.int .i64 xa) ∧ q0.cell? ⟨h, i + 1, none⟩ = some (.int .i64 xb) := by rw [e0]; exact ⟨hct, ca, cb⟩
            have HE0 := Lib.hid e0
            have D0h := Lib.hid D0
            clear e0 D0 hct ca cb
            refine AnyT.begin_at tlO (fun X => X.cell? ⟨g, tn, none⟩ = some (.slice (some ⟨h, 0, none⟩) M vc) ∧ X.cell? ⟨h, i, none⟩ = some (.int .i64 xa) ∧ X.cell? ⟨h, i + 1, none⟩ = some (.int .i64 xb)) (by kernel_rfl) HE0.out F0 ?_
            clear F0
            intro F0
-- TAKES O1
            refine AnyT.takePD (i := 0) (d := some 82) (v := .slice (some ⟨g, 0, none⟩) 3 3) rfl rfl (by decide +kernel) (by decide +kernel) (by decide +kernel) (by rfl) (fun _ _ _ h => h) (Or.inl ⟨by rfl, fun wz _ => by go_simp⟩) ?_
            simp only [Act.put, List.setIfInBounds_toArray, List.set_cons_zero, List.set_cons_succ]
            refine AnyT.takePD (i := 1) (d := some 83) (v := .int .i64 (tn : Int)) rfl rfl (by decide +kernel) (by decide +kernel) (by decide +kernel) (by rfl) (fun _ _ _ h => h) (Or.inl ⟨by rfl, fun wz _ => by go_simp⟩) ?_
            simp only [Act.put, List.setIfInBounds_toArray, List.set_cons_zero, List.set_cons_succ]
            refine AnyT.takePD (i := 2) (d := some 84) (v := .pointer (some ⟨g, tn, none⟩)) rfl rfl (by decide +kernel) (by decide +kernel) (by decide +kernel) (by rfl) (fun _ _ _ h => h) (Or.inl ⟨by rfl, fun wz _ => by go_simp⟩) ?_
            simp only [Act.put, List.setIfInBounds_toArray, List.set_cons_zero, List.set_cons_succ]
            refine AnyT.takePD (i := 4) (d := some 86) (v := .int .i64 (i : Int)) rfl rfl (by decide +kernel) (by decide +kernel) (by decide +kernel) (by rfl) (fun _ _ _ h => h) (Or.inl ⟨by rfl, fun wz _ => by go_simp⟩) ?_
            simp only [Act.put, List.setIfInBounds_toArray, List.set_cons_zero, List.set_cons_succ]
            refine AnyT.takePD (i := 5) (d := some 87) (v := .slice (some ⟨g, 0, none⟩) 3 3) rfl rfl (by decide +kernel) (by decide +kernel) (by decide +kernel) (by rfl) (fun _ _ _ h => h) (Or.inl ⟨by rfl, fun wz _ => by go_simp⟩) ?_
            simp only [Act.put, List.setIfInBounds_toArray, List.set_cons_zero, List.set_cons_succ]
            refine AnyT.takePD (i := 6) (d := some 88) (v := .int .i64 (tn : Int)) rfl rfl (by decide +kernel) (by decide +kernel) (by decide +kernel) (by rfl) (fun _ _ _ h => h) (Or.inl ⟨by rfl, fun wz _ => by go_simp⟩) ?_
            simp only [Act.put, List.setIfInBounds_toArray, List.set_cons_zero, List.set_cons_succ]
            refine AnyT.takePD (i := 7) (d := some 89) (v := .pointer (some ⟨g, tn, none⟩)) rfl rfl (by decide +kernel) (by decide +kernel) (by decide +kernel) (by rfl) (fun _ _ _ h => h) (Or.inl ⟨by rfl, fun wz _ => by go_simp⟩) ?_
            simp only [Act.put, List.setIfInBounds_toArray, List.set_cons_zero, List.set_cons_succ]
            refine AnyT.takePD (i := 9) (d := some 91) (v := .int .i64 (i : Int)) rfl rfl (by decide +kernel) (by decide +kernel) (by decide +kernel) (by rfl) (fun _ _ _ h => h) (Or.inl ⟨by rfl, fun wz _ => by go_simp⟩) ?_
            simp only [Act.put, List.setIfInBounds_toArray, List.set_cons_zero, List.set_cons_succ]
            refine AnyT.takePD (i := 10) (d := some 92) (v := .int .i64 ((i : Int) + 1)) rfl rfl (by decide +kernel) (by decide +kernel) (by decide +kernel) (by rfl) (fun _ _ _ h => h) (Or.inl ⟨by rfl, fun wz _ => by go_simp⟩) ?_
            simp only [Act.put, List.setIfInBounds_toArray, List.set_cons_zero, List.set_cons_succ]
            refine AnyT.takePD (i := 11) (d := some 93) (v := .slice (some ⟨g, 0, none⟩) 3 3) rfl rfl (by decide +kernel) (by decide +kernel) (by decide +kernel) (by rfl) (fun _ _ _ h => h) (Or.inl ⟨by rfl, fun wz _ => by go_simp⟩) ?_
            simp only [Act.put, List.setIfInBounds_toArray, List.set_cons_zero, List.set_cons_succ]
            refine AnyT.takePD (i := 12) (d := some 94) (v := .int .i64 (tn : Int)) rfl rfl (by decide +kernel) (by decide +kernel) (by decide +kernel) (by rfl) (fun _ _ _ h => h) (Or.inl ⟨by rfl, fun wz _ => by go_simp⟩) ?_
            simp only [Act.put, List.setIfInBounds_toArray, List.set_cons_zero, List.set_cons_succ]
            refine AnyT.takePD (i := 13) (d := some 95) (v := .pointer (some ⟨g, tn, none⟩)) rfl rfl (by decide +kernel) (by decide +kernel) (by decide +kernel) (by rfl) (fun _ _ _ h => h) (Or.inl ⟨by rfl, fun wz _ => by go_simp⟩) ?_
            simp only [Act.put, List.setIfInBounds_toArray, List.set_cons_zero, List.set_cons_succ]
            refine AnyT.takePD (i := 15) (d := some 97) (v := .int .i64 (i : Int)) rfl rfl (by decide +kernel) (by decide +kernel) (by decide +kernel) (by rfl) (fun _ _ _ h => h) (Or.inl ⟨by rfl, fun wz _ => by go_simp⟩) ?_
            simp only [Act.put, List.setIfInBounds_toArray, List.set_cons_zero, List.set_cons_succ]
            refine AnyT.takePD (i := 16) (d := some 98) (v := .int .i64 ((i : Int) + 1)) rfl rfl (by decide +kernel) (by decide +kernel) (by decide +kernel) (by rfl) (fun _ _ _ h => h) (Or.inl ⟨by rfl, fun wz _ => by go_simp⟩) ?_
            simp only [Act.put, List.setIfInBounds_toArray, List.set_cons_zero, List.set_cons_succ]
            refine AnyT.takePD (i := 19) (d := some 101) (v := .slice (some ⟨g, 0, none⟩) 3 3) rfl rfl (by decide +kernel) (by decide +kernel) (by decide +kernel) (by rfl) (fun _ _ _ h => h) (Or.inl ⟨by rfl, fun wz _ => by go_simp⟩) ?_
            simp only [Act.put, List.setIfInBounds_toArray, List.set_cons_zero, List.set_cons_succ]
            refine AnyT.takePD (i := 20) (d := some 102) (v := .int .i64 (tn : Int)) rfl rfl (by decide +kernel) (by decide +kernel) (by decide +kernel) (by rfl) (fun _ _ _ h => h) (Or.inl ⟨by rfl, fun wz _ => by go_simp⟩) ?_
            simp only [Act.put, List.setIfInBounds_toArray, List.set_cons_zero, List.set_cons_succ]
            refine AnyT.takePD (i := 21) (d := some 103) (v := .pointer (some ⟨g, tn, none⟩)) rfl rfl (by decide +kernel) (by decide +kernel) (by decide +kernel) (by rfl) (fun _ _ _ h => h) (Or.inl ⟨by rfl, fun wz _ => by go_simp⟩) ?_
            simp only [Act.put, List.setIfInBounds_toArray, List.set_cons_zero, List.set_cons_succ]
            refine AnyT.takePD (i := 23) (d := some 105) (v := .int .i64 (i : Int)) rfl rfl (by decide +kernel) (by decide +kernel) (by decide +kernel) (by rfl) (fun _ _ _ h => h) (Or.inl ⟨by rfl, fun wz _ => by go_simp⟩) ?_
            simp only [Act.put, List.setIfInBounds_toArray, List.set_cons_zero, List.set_cons_succ]
            refine AnyT.takeD (i := 22) (d := some 104) (v := .slice (some ⟨h, 0, none⟩) M vc) rfl rfl (by decide +kernel) (by decide +kernel) (by decide +kernel) (by decide +kernel) (fun _ _ _ h => h) (Or.inl ⟨by rfl, fun wz hz => by obtain ⟨z0, z1, z2⟩ := hz; go_simp⟩) F0 ?_
            simp only [Act.put, List.setIfInBounds_toArray, List.set_cons_zero, List.set_cons_succ]
            refine AnyT.takePD (i := 24) (d := some 106) (v := .pointer (some ⟨h, i, none⟩)) rfl rfl (by decide +kernel) (by decide +kernel) (by decide +kernel) (by rfl) (fun _ _ _ h => h) (Or.inl ⟨by rfl, fun wz _ => by go_simp⟩) ?_
            simp only [Act.put, List.setIfInBounds_toArray, List.set_cons_zero, List.set_cons_succ]
            refine AnyT.takeD (i := 3) (d := some 85) (v := .slice (some ⟨h, 0, none⟩) M vc) rfl rfl (by decide +kernel) (by decide +kernel) (by decide +kernel) (by decide +kernel) (fun _ _ _ h => h) (Or.inl ⟨by rfl, fun wz hz => by obtain ⟨z0, z1, z2⟩ := hz; go_simp⟩) F0 ?_
            simp only [Act.put, List.setIfInBounds_toArray, List.set_cons_zero, List.set_cons_succ]
            refine AnyT.takeD (i := 8) (d := some 90) (v := .slice (some ⟨h, 0, none⟩) M vc) rfl rfl (by decide +kernel) (by decide +kernel) (by decide +kernel) (by decide +kernel) (fun _ _ _ h => h) (Or.inl ⟨by rfl, fun wz hz => by obtain ⟨z0, z1, z2⟩ := hz; go_simp⟩) F0 ?_
            simp only [Act.put, List.setIfInBounds_toArray, List.set_cons_zero, List.set_cons_succ]
            refine AnyT.takeD (i := 14) (d := some 96) (v := .slice (some ⟨h, 0, none⟩) M vc) rfl rfl (by decide +kernel) (by decide +kernel) (by decide +kernel) (by decide +kernel) (fun _ _ _ h => h) (Or.inl ⟨by rfl, fun wz hz => by obtain ⟨z0, z1, z2⟩ := hz; go_simp⟩) F0 ?_
            simp only [Act.put, List.setIfInBounds_toArray, List.set_cons_zero, List.set_cons_succ]
            refine AnyT.takeD (i := 17) (d := some 99) (v := .pointer (some ⟨h, i + 1, none⟩)) rfl rfl (by decide +kernel) (by decide +kernel) (by decide +kernel) (by decide +kernel) (fun _ _ _ h => h) (Or.inl ⟨by rfl, fun wz _ => by go_simp⟩) F0 ?_
            simp only [Act.put, List.setIfInBounds_toArray, List.set_cons_zero, List.set_cons_succ]
            refine AnyT.takeD (i := 18) (d := some 100) (v := .int .i64 xb) rfl rfl (by decide +kernel) (by decide +kernel) (by decide +kernel) (by decide +kernel) (fun _ _ _ h => h) (Or.inl ⟨by rfl, fun wz hz => by obtain ⟨z0, z1, z2⟩ := hz; go_simp⟩) F0 ?_
            simp only [Act.put, List.setIfInBounds_toArray, List.set_cons_zero, List.set_cons_succ]
            refine AnyT.takeD (i := 25) (d := some 107) (v := .int .i64 xa) rfl rfl (by decide +kernel) (by decide +kernel) (by decide +kernel) (by decide +kernel) (fun _ _ _ h => h) (Or.inl ⟨by rfl, fun wz hz => by obtain ⟨z0, z1, z2⟩ := hz; go_simp⟩) F0 ?_
            simp only [Act.put, List.setIfInBounds_toArray, List.set_cons_zero, List.set_cons_succ]
            refine AnyT.takePD (i := 26) (d := some 108) (v := .pointer (some ⟨h, i, none⟩)) rfl rfl (by decide +kernel) (by decide +kernel) (by decide +kernel) (by rfl) (fun _ _ _ h => h) (Or.inl ⟨by rfl, fun wz _ => by go_simp⟩) ?_
            simp only [Act.put, List.setIfInBounds_toArray, List.set_cons_zero, List.set_cons_succ]
            -- TAKEN O1
            refine AnyT.branch (rs := [27]) (by kernel_rfl) (by simp) ?_
            refine all_cons ?_ all_nil
            refine AnyT.step (i := 27) rfl (fun KK hK => ?_)
            obtain ⟨z0, z1, z2⟩ := F0
            obtain ⟨hn1, hn2, -⟩ := O9.out.num HV.out HT.out HXM.out
            have fa := hn2 i
            have d2 : (q0.setCell ⟨h, i, none⟩ (.int .i64 xb)).cell? ⟨h, i + 1, none⟩ = some (.int .i64 xb) := (World.cell?_setCell_other _ _ _ _ (by simp)).trans z2
            have fb : (q0.setCell ⟨h, i, none⟩ (.int .i64 xb)).frozen? ⟨h, i + 1, none⟩ = false := by rw [World.frozen?_setCell]; exact hn2 (i + 1)
            have DB := Lib.hid (show Hid _ from Lib.hid (And.intro d2 fb))
            clear hn1 hn2 d2 fb
            go_simp
            refine hK.out _ _ (fun h => absurd h (by decide)) ?_
            clear hK KK fa z0 z1 z2
-- TAKES O2
            refine AnyT.takePD (i := 28) (d := some 109) (v := .pointer (some ⟨h, i + 1, none⟩)) rfl rfl (by decide +kernel) (by decide +kernel) (by decide +kernel) (by rfl) (fun _ _ _ h => h) (Or.inl ⟨by rfl, fun wz _ => by go_simp⟩) ?_
            simp only [Act.put, List.setIfInBounds_toArray, List.set_cons_zero, List.set_cons_succ]
            -- TAKEN O2
            refine AnyT.branch (rs := [29]) (by kernel_rfl) (by simp) ?_
            refine all_cons ?_ all_nil
            refine AnyT.step (i := 29) rfl (fun KK hK => ?_)
            obtain ⟨d2, fb⟩ := DB.out.out
            go_simp
            refine hK.out _ _ (fun h => absurd h (by decide)) ?_
            clear hK KK d2 fb DB
            refine AnyT.done_ (by kernel_rfl) ?_ _
            have O10 := Lib.hid (O9.out.store2 HV.out HT.out HXM.out i (i + 1) xb xa)
            have hhg : g < h := (O9.out.num HV.out HT.out HXM.out).2.2
            have hmh : m < h := Nat.lt_trans HMG.out hhg
            have hwh : w.heap.size ≤ h := by have := HBG.out; have := HB.out; omega
            have K10 := Lib.hid (((K8.out.stays' D0h.out).setCell (p := ⟨h, i, none⟩) hmh (.int .i64 xb)).setCell (p := ⟨h, i + 1, none⟩) hmh (.int .i64 xa))
            have V10 := Lib.hid (((V8.out.trans (Moves.of_below D0h.out)).setCell (p := ⟨h, i, none⟩) (Or.inr hwh) (.int .i64 xb)).setCell (p := ⟨h, i + 1, none⟩) (Or.inr hwh) (.int .i64 xa))
            have hbh : h ≠ b := by have := HBG.out; omega
            have J10 := Lib.hid (((J8.out.below D0h.out J8.out.lt).stO (p := ⟨h, i, none⟩) hbh (.int .i64 xb)).stO (p := ⟨h, i + 1, none⟩) hbh (.int .i64 xa))
            have LL := Lib.hid (show (ts.set tn ((xs.set i xb).set (i + 1) xa)).length = 3 by rw [List.length_set]; exact LBB.out.1)
            go_wp2_with fail
            go_meet
            case rel => exact ⟨Lib.hid ⟨_, O10.out, LL.out⟩, Lib.hid (K10.out.more (by omega)), V10, J10⟩
          · have hM1i : ¬ (1 : Int) < (M : Int) := by omega
            go_wp2_with fail
            clear hct
            have LL := Lib.hid LBB.out.1
            go_meet
            case rel => exact ⟨Lib.hid ⟨_, O7.out, LL.out⟩, Lib.hid (K7.out.more (by omega)), V7, J7⟩
      case rest =>
        clear K6 V6 O6 J6 LBB
        obtain ⟨O, K, V, J⟩ := hcut
        obtain ⟨ts', O, h3⟩ := O.out
        have HO := Lib.hid O
        have hv3 : vs.length = 3 := by rw [O.len]; exact h3
        have HV3 := Lib.hid hv3
        have HT3 := Lib.hid h3
        clear O h3 hv3
        go_wp2_with fail
        refine (next_any m (N + 3) 6 wc K.out (by omega) (by omega) (by omega)).mono ?_
        rintro e w8 ⟨z, rfl, z1, z2, k8, m8⟩
        have K8 := Lib.hid k8
        have V8 := Lib.hid (V.out.trans m8)
        have O8 := Lib.hid (HO.out.moves m8 HMG.out)
        have J8 := Lib.hid (J.out.moves m8 (by have := HMB.out; omega))
        clear k8 m8 K V HO J
        by_cases hz : z = 0
        · subst hz
          obtain ⟨j0, j1, jl⟩ := J8.out
          go_wp2_with fail
          refine (from_any m (N + 3 + 1) (-1) (L : Int) w8 K8.out (by omega) (by omega) (by omega) (by omega)).mono ?_
          rintro e w9 ⟨x, rfl, x1, x2, k9, m9⟩
          have K9 := Lib.hid k9
          have V9 := Lib.hid (V8.out.trans m9)
          have O9 := Lib.hid (O8.out.moves m9 HMG.out)
          clear k9 m9 K8 V8 O8 J8 j0 j1 jl
          obtain ⟨i0, hi0, hz0, hz1, hz2⟩ := info_parts infoSli
          have hg9 := O9.out.lt
          have hwg : w.heap.size ≤ g := by have := HBG.out; have := HB.out; omega
          have HROW := Lib.hid (((O9.out.below ((Below.refl _ _).alloc (Nat.le_refl _) (.cells #[.int .i64 x] 3))).below ((Below.refl _ _).alloc (Nat.le_refl _) (.cells #[.slice (some ⟨w9.heap.size, 0, none⟩) 1 1] 22))).rows HV3.out g (Nat.le_refl g))
          have HPP := Lib.hid (show ∀ (v' : Value) (w' : World), w'.ownsRow g 22 1 v' (3 + 1) (vs ++ [.slice (some ⟨w9.heap.size, 0, none⟩) 1 1]) → ((w9.alloc (.cells #[.int .i64 x] 3)).alloc (.cells #[.slice (some ⟨w9.heap.size, 0, none⟩) 1 1] 22)).grownBy w' (some g) → (∃ oA oc, v' = .slice oA (3 + 1) oc ∧ PP w' oA (ts' ++ [[x]])) ∧ IsMk w' m (N + 6) ∧ Moves m w w' from fun v' w' hown hgr => by
            refine ⟨pp_of_rows hown (by omega) (by simp [HV3.out, HT3.out]) (fun k u t hu ht => ?_), ?_, ?_⟩
            · by_cases hk : k < 3
              · rw [List.getElem?_append_left (by rw [HV3.out]; exact hk)] at hu
                rw [List.getElem?_append_left (by rw [HT3.out]; exact hk)] at ht
                have o := O9.out.own k u t hu ht
                refine ⟨_, ((o.alloc _).alloc _).kept hgr ?_⟩
                cases hq : u.ownBlock with
                | none => exact Or.inl rfl
                | some q => exact Or.inr (fun e => by have h1 := (own_block o hq).1; have h2 : q = g := by simpa using e
                                                      omega)
              · rw [List.getElem?_append_right (by rw [HV3.out]; omega)] at hu
                rw [List.getElem?_append_right (by rw [HT3.out]; omega)] at ht
                have hk0 : k - vs.length = 0 := by
                  rcases Nat.eq_zero_or_pos (k - vs.length) with h | h
                  · exact h
                  · rw [List.getElem?_eq_none (by simp; omega)] at hu; cases hu
                have hk1 : k - ts'.length = 0 := by have := HV3.out; have := HT3.out; omega
                rw [hk0] at hu
                rw [hk1] at ht
                injection hu with hu
                injection ht with ht
                subst hu
                subst ht
                refine ⟨_, ((Own.laid (k := .i64) (T := 3) w9 w9.heap.size (Nat.le_refl _) [x] 1 rfl (by omega)).alloc _).kept hgr (Or.inr (fun e => ?_))⟩
                have : w9.heap.size = g := by simpa [Value.ownBlock] using e
                omega
            · exact ((((K9.out.alloc _).alloc _).grown hgr (fun k e => by injection e with e; have := HMG.out; omega))).more (by omega)
            · exact ((V9.out.alloc _).alloc _).grown hgr (fun k e => by injection e with e; omega))
          have HNW := Lib.hid (show ∀ ad, (some ⟨w9.heap.size + 1, 0, none⟩ : Option Addr) = some ad → ∀ j u, [Value.slice (some ⟨w9.heap.size, 0, none⟩) 1 1][j]? = some u → ((w9.alloc (.cells #[.int .i64 x] 3)).alloc (.cells #[.slice (some ⟨w9.heap.size, 0, none⟩) 1 1] 22)).cell? (ad.add j) = some u from fun ad e j u hj => by
            injection e with e
            subst e
            have hj0 : j = 0 := by
              rcases Nat.eq_zero_or_pos j with h | h
              · exact h
              · rw [List.getElem?_eq_none (by simp; omega)] at hj; cases hj
            subst hj0
            rw [add_own]
            have hs : w9.heap.size + 1 = (w9.alloc (.cells #[.int .i64 x] 3)).heap.size := by simp
            rw [hs, cell_new]
            exact hj)
          have HGS := Lib.hid (show g ≤ ((w9.alloc (.cells #[.int .i64 x] 3)).alloc (.cells #[.slice (some ⟨w9.heap.size, 0, none⟩) 1 1] 22)).heap.size by simp; omega)
          go_wp2_with (first | (at_builtin; refine wpList_app_src rfl (.tmp 113) (.tmp 120) 26 rfl g 22 i0 (.slice none 0 0) 1 24 Try.underlying26 hi0 hz0 hz1 hz2 rfl (by decide) (.slice (some ⟨g, 0, none⟩) 3 3) 3 vs rfl HROW.out (some ⟨w9.heap.size + 1, 0, none⟩) 1 1 [.slice (some ⟨w9.heap.size, 0, none⟩) 1 1] (by first | rfl | (show Value.slice (some ⟨_, 0, none⟩) 1 1 = _; simp)) (fun e => by cases e) rfl HNW.out (fun u hu => by rw [List.mem_singleton] at hu; subst hu; rfl) (by decide) (by decide) HGS.out ?_; intro v' w' hown hgr; obtain ⟨⟨oA, oc, rfl, hpp⟩, hk', hv'⟩ := HPP.out v' w' hown hgr; have HP1 := Lib.hid hpp; have HP2 := Lib.hid hk'; have HP3 := Lib.hid hv'; clear hown hgr hpp hk' hv'))
          go_ret
          exact ⟨oA, 3 + 1, oc, ts' ++ [[x]], rfl, HP1.out, by simp [HT3.out], by omega, HP2.out, HP3.out⟩
        · have hzz : (z == 0) = false := by simpa using hz
          clear hz
          go_wp2_with fail
          go_ret
          exact ⟨_, 3, 3, ts', rfl, O8.out.pp, HT3.out.symm, by omega, K8.out.more (by omega), V8.out⟩
end Go.Proofs.Ytpimdcljecipeaa
