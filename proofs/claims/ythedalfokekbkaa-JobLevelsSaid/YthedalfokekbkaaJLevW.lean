/-
  Stage 11: the walk of JobLevels.
-/
import Derived.Test.YthedalfokekbkaaJLaw
set_option linter.unusedSimpArgs false
set_option linter.unusedVariables false
namespace Go.Proofs.Ythedalfokekbkaa
open Go.RowKit Go.Lib

set_option maxRecDepth 100000 in
set_option maxHeartbeats 3200000 in
theorem levels_walk (A : Option Addr) (c : Nat) (zs : List Int) (w : World) (hr : Row .i64 w w.heap.size A zs) (hm : zs.length ≤ maxLen) (hw : ∀ n ∈ zs, (Lit.int .i64 n).wf = true) :
    Calls Try.prog 6 #[.slice A zs.length c] w fun e w' => e = .returned (.bool true) ∧ Below w.heap.size w w' := by
  have K := Lib.hid (mk_row (c := c) (T := 56) hr hm hw)
  have B := Lib.hid ((Below.refl w.heap.size w).alloc (Nat.le_refl _) (.cells #[.slice A zs.length c, .int .i64 0] 56))
  clear hr hw
  go_enter Try.func6, Try.ntmps6
  go_wp2_with fail
  refine (new_any A zs.length c w).mono ?_
  rintro e w1 ⟨rfl, hw1⟩
  rw [← hw1] at K B
  clear hw1 hm
  go_wp2_with fail
  refine (mjob_any w.heap.size 0 14 w1 K.out (by omega) (by omega)).mono ?_
  rintro e w2 ⟨jA, jc, l, wt, rfl, O, hl, hrun, hwt, _, V⟩
  have S0 := JSt.new rfl B.out K.out O (by omega) hrun hwt V
  have S := Lib.hid S0
  obtain ⟨b, hb⟩ : ∃ b, b = w2.heap.size := ⟨_, rfl⟩
  rw [← hb] at S
  clear K B O V S0 hwt hrun
  go_upto_region 2 with fail
  rw [← hb]
  generalize w2.alloc (.cells #[.slice jA l.length jc, .int .i64 wt] 24) = w3 at *
  clear hb
  have HLV := Lib.hid (levels_any l jA jc wt w3 S.out.row)
  obtain ⟨L, hL⟩ : ∃ n, n = l.length := ⟨_, rfl⟩
  have HL := Lib.hid hL
  have J := S.out.box
  rw [← hL] at J HLV hl ⊢
  obtain ⟨j0, j1, jl⟩ := J
  clear hL
  go_wp2_with fail
  refine HLV.out.mono ?_
  rintro e w4 ⟨v, vs, rfl, O, hlev, _, B4⟩
  rw [S.out.val]
  have HV := Lib.hid (hlev S.out.val)
  have S4 := Lib.hid (S.out.below B4)
  obtain ⟨vA, vc, rfl, R, _⟩ := O.slice
  have HR := Lib.hid R
  have hvl : vs.length = L := by rw [HV.out.len, HL.out]
  rw [hvl]
  have HVL := Lib.hid hvl
  have J := S4.out.box
  rw [← HL.out] at J
  clear hlev B4 O R S HLV hvl j0 j1 jl
  obtain ⟨j0, j1, jl⟩ := J
  have hne : ((L : Int) != (L : Int)) = false := by simp
  have HJB := Lib.hid (show ∀ W, Below w4.heap.size w4 W → JBox W b jA L jc wt from fun W k => by
    have := (S4.out.below k).box
    rwa [← HL.out] at this)
  have HRL := Lib.hid (fun (x y : Nat) (hx : x < L) (hy : y < L) (W : World) (k : Below w4.heap.size w4 W) => (by
    have := relationF_any l jA jc wt (x : Int) (y : Int) W (S4.out.row.below k)
    rw [← HL.out] at this
    unfold RelPost at this
    rw [relE_ok S4.out.val (by rw [← HL.out]; exact hx) (by rw [← HL.out]; exact hy)] at this
    exact this : Calls Try.prog 21 #[jv jA L jc wt, .int .i64 (x : Int), .int .i64 (y : Int)] W fun e w' => e = .returned (R2 (rel l x y, 0)) ∧ Below W.heap.size W w'))
  go_wp2_with fail
  go_loopw [31] (fun iv wr => ∃ y : Nat, y ≤ L ∧ iv = .int .i64 (y : Int) ∧ Hid (Below w4.heap.size w4 wr)) (fun iv _ => L - (intOf iv).toNat)
  case atStart => exact ⟨0, by omega, rfl, Lib.hid (Below.refl _ _)⟩
  case round =>
    clear j0 j1 jl hne
    obtain ⟨y, hy, rfl, B⟩ := hrel
    by_cases hlt : y < L
    · go_wp2_with fail
      go_loopw [7, 36] (fun mv iv wr => ∃ (x : Nat) (M : Int), x ≤ L ∧ iv = .int .i64 (x : Int) ∧ mv = .int .i64 M ∧ Hid (IsMaxP (fun z => z < x) (fun z => via l vs z y) M) ∧ Hid (Below w4.heap.size w4 wr)) (fun _ iv _ => L - (intOf iv).toNat)
      case atStart => exact ⟨0, 0, by omega, rfl, rfl, Lib.hid (IsMaxP.start _), B⟩
      case round =>
        clear B
        obtain ⟨x, M, hx, rfl, rfl, HM, B⟩ := hrel
        by_cases hlx : x < L
        · obtain ⟨j0, j1, jl⟩ := HJB.out _ B.out
          go_wp2_with fail
          refine (HRL.out x y hlx hlt _ B.out).mono ?_
          rintro e w5 ⟨rfl, B5⟩
          have B6 := Lib.hid (B.out.trans (B5.mono B.out.size))
          obtain ⟨vad, rfl, _, cx⟩ := (HR.out.below B6.out) x (by rw [HVL.out]; exact hlx)
          have hbd := HV.out.bound S4.out.ok x (by rw [← HL.out]; exact hlx)
          have hb31 := (S4.out.ok x (by rw [← HL.out]; exact hlx)).2
          have HRC := Lib.hid (rel_cases l x y)
          have hvp := Lib.hid (fun (g : rel l x y ≠ 0) => via_pos (v := vs) g)
          have hvz := Lib.hid (fun (g : rel l x y = 0) => via_zero (v := vs) g)
          have hmore := Lib.hid (fun (N : Int) (hN : N = if M < via l vs x y then via l vs x y else M) => HM.out.more (q := fun z => z < x + 1) (y := x) (fun z => by
            show z < x + 1 ↔ z < x ∨ z = x
            omega) hN)
          have hMp := HM.out.pos
          obtain ⟨z, hz⟩ : ∃ z, z = vs.getD x 0 := ⟨_, rfl⟩
          obtain ⟨vv, hvv⟩ : ∃ z, z = via l vs x y := ⟨_, rfl⟩
          obtain ⟨r, hr⟩ : ∃ z, z = rel l x y := ⟨_, rfl⟩
          rw [← hz] at cx hbd hvp
          rw [← hvv] at hvp hvz hmore
          rw [← hr] at hvp hvz HRC ⊢
          clear B5 B HM hz hvv hr j0 j1 jl
          by_cases hr0 : r = 0
          · have HN := Lib.hid (hmore.out M (by rw [hvz.out hr0, if_neg (by omega)]))
            subst hr0
            clear hmore hvp hvz
            go_wp2_with fail
            go_roundw
            case rel => exact ⟨x + 1, M, by omega, by go_num, rfl, HN, B6⟩
            case measure => simp [intOf]; omega
          · have hrp : 0 < r := by rcases HRC.out with e | e | e <;> omega
            have hr2 : r ≤ 2 := by rcases HRC.out with e | e | e <;> omega
            obtain ⟨M2, hM2⟩ : ∃ t, t = max2 M (z + r - 1) := ⟨_, rfl⟩
            have hmx : ∀ w ts t, (Builtin.max_ ts t #[.int .i64 M, .int .i64 (z + r - 1)]).run Try.prog w = .ok (.int .i64 M2) w := fun w ts t => by rw [run_max2, hM2]
            have HN := Lib.hid (hmore.out M2 (by rw [hM2, hvp.out hr0, show z + (r - 1) = z + r - 1 by omega]; rfl))
            clear hM2 hmore hvp hvz hr0
            go_wp2_with fail
            go_roundw
            case rel => exact ⟨x + 1, M2, by omega, by go_num, rfl, HN, B6⟩
            case measure => simp [intOf]; omega
        · obtain rfl : x = L := by omega
          obtain ⟨vad, rfl, _, cy⟩ := (HR.out.below B.out) y (by rw [HVL.out]; exact hlt)
          have he : vs.getD y 0 = M := (HV.out.max y (by rw [← HL.out]; exact hlt)).uniq (HM.out.congr (q := fun z => z < l.length) (fun z => by rw [← HL.out]) (fun z _ => rfl)) (fun _ _ => rfl)
          rw [he] at cy
          have hmm : (M != M) = false := by simp
          clear he hlx HM
          go_wp2_with fail
          go_roundw
          case rel => exact ⟨y + 1, by omega, by go_num, B⟩
          case measure => simp [intOf]; omega
    · obtain rfl : y = L := by omega
      have HB := Lib.hid (S4.out.below B.out).bel
      clear hlt B
      go_wp2_with fail
      refine (sane_any _).mono ?_
      rintro e w6 ⟨rfl, B6⟩
      have HB6 := Lib.hid (HB.out.trans (B6.mono HB.out.size))
      clear B6
      go_wp2_with fail
      go_ret
      exact ⟨rfl, HB6.out⟩
theorem levels_law (a : Option Addr) (len cap : Nat) (zs : List Int) (w : World) (h : IsRow .i64 w a len cap zs) :
    Calls Try.prog 6 #[.slice a len cap] w fun e w' => e = .returned (.bool true) ∧ Below w.heap.size w w' := by
  obtain ⟨l, rfl, h1, h2, h3⟩ := h.row
  exact levels_walk a cap l w h1 h2 h3
end Go.Proofs.Ythedalfokekbkaa
