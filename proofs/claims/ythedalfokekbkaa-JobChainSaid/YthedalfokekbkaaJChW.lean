/-
  Stage 11: the walk of JobChain.
-/
import Derived.Test.YthedalfokekbkaaJLaw
set_option linter.unusedSimpArgs false
set_option linter.unusedVariables false
namespace Go.Proofs.Ythedalfokekbkaa
open Go.RowKit Go.Lib

/-- How many of the first k steps of a chain are strict. -/
def strK (l : List It) (c : List Nat) : Nat → Int
  | 0 => 0
  | k + 1 => strK l c k + (rel l (c.getD k 0) (c.getD (k + 1) 0) - 1)
theorem strK_same {l : List It} {c d : List Nat} {k : Nat} (h : ∀ i, i ≤ k → c.getD i 0 = d.getD i 0) : strK l c k = strK l d k := by
  induction k with
  | zero => rfl
  | succ k ih => unfold strK; rw [ih (fun i hi => h i (by omega)), h k (by omega), h (k + 1) (Nat.le_refl _)]
/-- The chain that is found going back: each step is one, and the level of its end is the number of its strict steps. -/
theorem IsBack.steps {l : List It} {v : List Int} (hn : ∀ y, y < l.length → 0 ≤ v.getD y 0) {y : Nat} {c : List Nat} (h : IsBack l v y c) (hy : y < l.length) :
    0 < c.length ∧ c.getD (c.length - 1) 0 = y ∧ (∀ k, k + 1 < c.length → rel l (c.getD k 0) (c.getD (k + 1) 0) ≠ 0) ∧ strK l c (c.length - 1) = v.getD y 0 := by
  induction h with
  | one y h0 =>
    refine ⟨by simp, rfl, fun k hk => absurd hk (by simp), ?_⟩
    have := hn y hy
    show (0 : Int) = _
    omega
  | step y x c h0 h1 h2 h3 h4 ih =>
    obtain ⟨i1, i2, i3, i4⟩ := ih h1
    have hl : (c ++ [y]).length = c.length + 1 := by simp
    have e1 : ∀ i, i < c.length → (c ++ [y]).getD i 0 = c.getD i 0 := fun i hi => by
      rw [List.getD_eq_getElem?_getD, List.getElem?_append_left hi, ← List.getD_eq_getElem?_getD]
    have e2 : (c ++ [y]).getD c.length 0 = y := by
      rw [List.getD_eq_getElem?_getD, List.getElem?_append_right (Nat.le_refl _)]; simp
    have gr : rel l x y ≠ 0 := fun g => by rw [via_zero g] at h2; omega
    refine ⟨by omega, by rw [hl]; exact e2, fun k hk => ?_, ?_⟩
    · rw [hl] at hk
      by_cases g : k + 1 < c.length
      · rw [e1 k (by omega), e1 (k + 1) g]; exact i3 k g
      · have e : k + 1 = c.length := by omega
        rw [e, e2, e1 k (by omega), show k = c.length - 1 by omega, i2]; exact gr
    · rw [hl]
      obtain ⟨j, hj⟩ : ∃ j, c.length = j + 1 := ⟨c.length - 1, by omega⟩
      have i4' : strK l c j = v.getD x 0 := by rw [← i4, hj]; rfl
      have i2' : c.getD j 0 = x := by rw [← i2, hj]; rfl
      show strK l (c ++ [y]) (c.length + 1 - 1) = _
      rw [hj]
      show strK l (c ++ [y]) j + (rel l ((c ++ [y]).getD j 0) ((c ++ [y]).getD (j + 1) 0) - 1) = _
      rw [strK_same (d := c) (fun i hi => e1 i (by omega)), i4', e1 j (by omega), i2', show j + 1 = c.length from hj.symm, e2, ← h2, via_pos gr]
theorem strK_bd (l : List It) (c : List Nat) (k : Nat) : -(k : Int) ≤ strK l c k ∧ strK l c k ≤ (k : Int) := by
  induction k with
  | zero => exact ⟨Int.le_refl _, Int.le_refl _⟩
  | succ k ih =>
    unfold strK
    rcases rel_cases l (c.getD k 0) (c.getD (k + 1) 0) with e | e | e <;> rw [e] <;> constructor <;> omega
theorem toZ_mem {c : List Nat} {n : Nat} (h : ∀ x ∈ c, x < n) {k : Nat} (hk : k < c.length) : c.getD k 0 < n := h _ (getD_memN hk)
set_option maxRecDepth 100000 in
set_option maxHeartbeats 3200000 in
theorem chain_walk (A : Option Addr) (c : Nat) (zs : List Int) (w : World) (hr : Row .i64 w w.heap.size A zs) (hm : zs.length ≤ maxLen) (hw : ∀ n ∈ zs, (Lit.int .i64 n).wf = true) :
    Calls Try.prog 5 #[.slice A zs.length c] w fun e w' => e = .returned (.bool true) ∧ Below w.heap.size w w' := by
  have K := Lib.hid (mk_row (c := c) (T := 56) hr hm hw)
  have B := Lib.hid ((Below.refl w.heap.size w).alloc (Nat.le_refl _) (.cells #[.slice A zs.length c, .int .i64 0] 56))
  clear hr hw
  go_enter Try.func5, Try.ntmps5
  go_wp2_with fail
  refine (new_any A zs.length c w).mono ?_
  rintro e w1 ⟨rfl, hw1⟩
  rw [← hw1] at K B
  clear hw1 hm
  go_wp2_with fail
  refine (mjob_any w.heap.size 0 20 w1 K.out (by omega) (by omega)).mono ?_
  rintro e w2 ⟨jA, jc, l, wt, rfl, O, hl, hrun, hwt, _, V⟩
  have S0 := JSt.new rfl B.out K.out O (by omega) hrun hwt V
  have S := Lib.hid S0
  obtain ⟨b, hb⟩ : ∃ b, b = w2.heap.size := ⟨_, rfl⟩
  rw [← hb] at S
  clear K B O V S0 hwt hrun
  go_upto_region 2 with fail
  rw [← hb]
  generalize w2.alloc (.cells #[.slice jA l.length jc, .int .i64 wt] 24) = w3 at *
  clear hb
  have HLV := Lib.hid (levels_any l jA jc wt w3 S.out.row)
  have HDP := Lib.hid (fun (W : World) (k : Below w3.heap.size w3 W) => deepest_any l jA jc wt W (S.out.row.below k))
  obtain ⟨L, hL⟩ : ∃ n, n = l.length := ⟨_, rfl⟩
  have HL := Lib.hid hL
  have J := S.out.box
  rw [← hL] at J HLV HDP hl ⊢
  have HJB := Lib.hid (show ∀ W, Below w3.heap.size w3 W → JBox W b jA L jc wt from fun W k => J.below k J.lt)
  obtain ⟨j0, j1, jl⟩ := J
  clear hL
  go_wp2_with fail
  refine HLV.out.mono ?_
  rintro e w4 ⟨v, vs, rfl, O, hlev, _, B4⟩
  rw [S.out.val]
  have HV := Lib.hid (hlev S.out.val)
  have HB4 := Lib.hid B4
  obtain ⟨vA, vc, rfl, R, _⟩ := O.slice
  have HR := Lib.hid R
  have hvl : vs.length = L := by rw [HV.out.len, HL.out]
  rw [hvl]
  have HVL := Lib.hid hvl
  clear hlev B4 O R HLV hvl j0 j1 jl
  obtain ⟨j0, j1, jl⟩ := HJB.out w4 HB4.out
  go_wp2_with fail
  refine (HDP.out w4 HB4.out).mono ?_
  rintro e w5 ⟨u, ds, rfl, O, hdeep, _, B5⟩
  rw [S.out.val]
  have HD := Lib.hid (hdeep S.out.val)
  have HB5 := Lib.hid (HB4.out.trans (B5.mono HB4.out.size))
  have HR := Lib.hid (HR.out.below B5)
  obtain ⟨dA, dc, rfl, R5, _, hdm, _⟩ := O.slice
  have HDR := Lib.hid R5
  clear hdeep B5 O R5 HDP j0 j1 jl
  obtain ⟨j0, j1, jl⟩ := HJB.out w5 HB5.out
  have hne : ((L : Int) != (L : Int)) = false := by simp
  cases L with
  | zero =>
    have hd0 := HD.out.nil HL.out.symm
    subst hd0
    have HB := Lib.hid (S.out.bel.trans (HB5.out.mono S.out.bel.size))
    clear HJB hdm
    go_wp2_with fail
    go_loopw [8, 53] (fun mv iv wr => mv = .int .i64 0 ∧ iv = .int .i64 0 ∧ Hid (wr = w5)) (fun _ iv _ => 0)
    case atStart => exact ⟨rfl, rfl, Lib.hid rfl⟩
    case round =>
      obtain ⟨rfl, rfl, HW⟩ := hrel
      obtain rfl := HW.out
      go_wp2_with fail
      go_loopw [9, 12] (fun sv iv wr => sv = .int .i64 0 ∧ iv = .int .i64 1 ∧ Hid (Below w.heap.size w wr)) (fun _ iv _ => 0)
      case atStart => exact ⟨rfl, rfl, HB⟩
      case round =>
        clear HB
        obtain ⟨rfl, rfl, HB⟩ := hrel
        go_wp2_with fail
        refine (sane_any _).mono ?_
        rintro e w6 ⟨rfl, B6⟩
        have HB6 := Lib.hid (HB.out.trans (B6.mono HB.out.size))
        clear B6
        go_wp2_with fail
        go_ret
        exact ⟨rfl, HB6.out⟩
  | succ n =>
    obtain ⟨v', y, ch, hl', htop, hback, rfl⟩ := HD.out.chain (by rw [← HL.out]; omega)
    obtain rfl := lev_uniq S.out.ok hl' HV.out
    have hyl : y < l.length := by rw [← HV.out.len]; exact htop.lt
    obtain ⟨c1, c2, c3, c4⟩ := hback.steps (fun y hy => (HV.out.bound S.out.ok y hy).1) hyl
    have HMEM := Lib.hid (fun (k : Nat) (hk : k < ch.length) => (show ch.getD k 0 < n + 1 by rw [HL.out]; exact hback.mem hyl _ (getD_memN hk)))
    have hcl := hback.len S.out.ok hyl
    have hc31 := (S.out.ok y hyl).2
    rw [toZ_len] at hdm ⊢
    obtain ⟨C, hC⟩ : ∃ C, C = ch.length := ⟨_, rfl⟩
    have HC := Lib.hid hC
    have HC3 := Lib.hid c3
    have HC4 := Lib.hid c4
    have HTOP := Lib.hid htop
    rw [← hC] at c1 hcl hdm ⊢
    have hC32 : C ≤ 32 := by omega
    have hC0 : ((C : Int) == 0) = false := by simpa using (by omega : ¬ C = 0)
    have hn0 : ((n : Int) + 1 == 0) = false := by simpa using (by omega : ¬ (n : Int) + 1 = 0)
    have hJ5 := HJB.out w5 HB5.out
    have HRL := Lib.hid (fun (x z : Nat) (hx : x < n + 1) (hz : z < n + 1) (W : World) (k : Below w3.heap.size w3 W) => (by
      have := relationF_any l jA jc wt (x : Int) (z : Int) W (S.out.row.below k)
      rw [← HL.out] at this
      unfold RelPost at this
      rw [relE_ok S.out.val (by rw [← HL.out]; exact hx) (by rw [← HL.out]; exact hz)] at this
      exact this : Calls Try.prog 21 #[jv jA (n + 1) jc wt, .int .i64 (x : Int), .int .i64 (z : Int)] W fun e w' => e = .returned (R2 (rel l x z, 0)) ∧ Below W.heap.size W w'))
    clear c2 c3 c4 hback hl' hC htop HD hyl hcl hc31
    go_wp2_with fail
    clear j0 j1 jl hC0 hn0 hne
    go_loopw [8, 53] (fun mv iv wr => ∃ (k : Nat) (M : Int), k ≤ n + 1 ∧ iv = .int .i64 (k : Int) ∧ mv = .int .i64 M ∧ Hid (IsMaxP (fun x => x < k) (fun x => v'.getD x 0) M) ∧ Hid (wr = w5)) (fun _ iv _ => n + 1 - (intOf iv).toNat)
    case atStart => exact ⟨0, 0, by omega, rfl, rfl, Lib.hid (IsMaxP.start _), Lib.hid rfl⟩
    case round =>
      obtain ⟨k, M, hk, rfl, rfl, HM, HW⟩ := hrel
      obtain rfl := HW.out
      by_cases hlt : k < n + 1
      · obtain ⟨vad, rfl, _, cx⟩ := HR.out k (by rw [HVL.out]; exact hlt)
        obtain ⟨z, hz⟩ : ∃ z, z = v'.getD k 0 := ⟨_, rfl⟩
        obtain ⟨M2, hM2⟩ : ∃ t, t = max2 M z := ⟨_, rfl⟩
        have hmx : ∀ w ts t, (Builtin.max_ ts t #[.int .i64 M, .int .i64 z]).run Try.prog w = .ok (.int .i64 M2) w := fun w ts t => by rw [run_max2, hM2]
        have HN := Lib.hid (HM.out.more (q := fun x => x < k + 1) (y := k) (fun x => by show x < k + 1 ↔ x < k ∨ x = k; omega) (N := M2) (by rw [hM2, hz]; rfl))
        rw [← hz] at cx
        clear hM2 hz HM hC32
        go_wp2_with fail
        go_roundw
        case rel => exact ⟨k + 1, M2, by omega, by go_num, rfl, HN, Lib.hid trivial⟩
        case measure => simp [intOf]; omega
      · obtain rfl : k = n + 1 := by omega
        have hM : M = v'.getD y 0 := by
          have h1 := HM.out.le y (by show y < n + 1; rw [← HVL.out]; exact HTOP.out.lt)
          have h2 : M ≤ v'.getD y 0 := by
            rcases HM.out.hit with e | ⟨x, hx, e⟩
            · have := (HV.out.bound S.out.ok y (by rw [← HV.out.len]; exact HTOP.out.lt)).1; omega
            · have := HTOP.out.le x (by rw [HVL.out]; exact hx); have e' : v'.getD x 0 = M := e; omega
          have h1' : v'.getD y 0 ≤ M := h1
          omega
        have HMM := Lib.hid (show strK l ch (C - 1) = M by rw [HC.out, HC4.out, hM])
        have HB := Lib.hid (S.out.bel.trans (HB5.out.mono S.out.bel.size))
        have HBW := Lib.hid HB5.out
        clear hM HM hlt
        go_wp2_with fail
        obtain ⟨wv, hwv⟩ : ∃ x, x = wr := ⟨_, rfl⟩
        have HST := Lib.hid (show Below wv.heap.size wv wr by rw [hwv]; exact Below.refl _ _)
        rw [← hwv] at HBW HR HDR
        clear hwv HW
        go_loopw [9, 12] (fun sv iv wi => ∃ (i : Nat), i + 1 ≤ C ∧ iv = .int .i64 ((i : Int) + 1) ∧ sv = .int .i64 (strK l ch i) ∧ Hid (Below wv.heap.size wv wi)) (fun _ iv _ => C - (intOf iv).toNat)
        case atStart => exact ⟨0, by omega, rfl, rfl, HST⟩
        case round =>
          clear HST HB
          obtain ⟨i, hi, rfl, rfl, BI⟩ := hrel
          obtain ⟨s, hs⟩ : ∃ s, s = strK l ch i := ⟨_, rfl⟩
          have hsb := strK_bd l ch i
          have HS := Lib.hid hs
          rw [← hs] at hsb ⊢
          clear hs
          have HBI := Lib.hid (HBW.out.trans (BI.out.mono HBW.out.size))
          by_cases hlt : i + 1 < C
          · obtain ⟨dad, rfl, _, d0⟩ := (HDR.out.below BI.out) i (by rw [toZ_len, ← HC.out]; omega)
            obtain ⟨_, e', _, d1⟩ := (HDR.out.below BI.out) (i + 1) (by rw [toZ_len, ← HC.out]; omega)
            obtain rfl : dad = _ := by injection e'
            rw [toZ_at _ (by rw [← HC.out]; omega)] at d0 d1
            rw [add_sc] at d1
            have h3 := HC3.out i (by rw [← HC.out]; exact hlt)
            have hrc := rel_cases l (ch.getD i 0) (ch.getD (i + 1) 0)
            have m0 := HMEM.out i (by rw [← HC.out]; omega)
            have m1 := HMEM.out (i + 1) (by rw [← HC.out]; omega)
            have HRR := Lib.hid (HRL.out _ _ m0 m1)
            have HS2 := Lib.hid (show strK l ch (i + 1) = s + (rel l (ch.getD i 0) (ch.getD (i + 1) 0) - 1) by rw [HS.out]; rfl)
            obtain ⟨j0, j1, jl⟩ := HJB.out wr HBI.out
            generalize ch.getD i 0 = x0 at *
            generalize ch.getD (i + 1) 0 = x1 at *
            generalize rel l x0 x1 = r at *
            have hlt' : (i : Int) + 1 < (C : Int) := by omega
            have hi0 : (0 : Int) ≤ (i : Int) := by omega
            have hi1 : (i : Int) < (C : Int) := by omega
            have h01 : (0 : Int) ≤ (i : Int) + 1 := by omega
            have htn : ((i : Int) + 1).toNat = i + 1 := by omega
            have hwr : IntKind.i64.wrap (i : Int) = (i : Int) := by simp [IntKind.wrap, IntKind.bits, IntKind.signed]; omega
            have HBD := Lib.hid HBI.out.drew
            have HBE := Lib.hid BI.out.drew
            clear e' m0 m1
            go_upto_region 15 with fail
            go_region_law (go_simp; go_at_call 21; refine (HRR.out wr.drew HBD.out).mono ?_; rintro e w7 ⟨rfl, B7⟩)
            all_goals
              have B8 := Lib.hid (HBE.out.trans (B7.mono HBE.out.size))
              clear B7 d0 d1 j0 j1 jl
              go_wp2_with fail
              go_roundw
              case rel => exact ⟨i + 1, by omega, by go_num, by rw [HS2.out], B8⟩
              case measure => simp [intOf]; omega
          · obtain rfl : C = i + 1 := by omega
            have hsm : s = M := by rw [HS.out]; exact HMM.out
            subst hsm
            have hss : (s == s) = true := by simp
            have HB := Lib.hid (S.out.bel.trans (HBI.out.mono S.out.bel.size))
            clear hlt BI
            go_wp2_with fail
            refine (sane_any _).mono ?_
            rintro e w6 ⟨rfl, B6⟩
            have HB6 := Lib.hid (HB.out.trans (B6.mono HB.out.size))
            clear B6
            go_wp2_with fail
            go_ret
            exact ⟨rfl, HB6.out⟩
theorem chain_law (a : Option Addr) (len cap : Nat) (zs : List Int) (w : World) (h : IsRow .i64 w a len cap zs) :
    Calls Try.prog 5 #[.slice a len cap] w fun e w' => e = .returned (.bool true) ∧ Below w.heap.size w w' := by
  obtain ⟨l, rfl, h1, h2, h3⟩ := h.row
  exact chain_walk a cap l w h1 h2 h3
end Go.Proofs.Ythedalfokekbkaa
