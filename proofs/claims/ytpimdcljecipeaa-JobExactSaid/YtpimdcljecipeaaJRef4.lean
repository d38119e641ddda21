/-
  Stage 11: the reference's Levels.
-/
import Derived.Test.YtpimdcljecipeaaJRef3
import Derived.Test.YtpimdcljecipeaaJLev
set_option linter.unusedSimpArgs false
set_option linter.unusedVariables false
namespace Go.Proofs.Ytpimdcljecipeaa
open Go.RowKit Go.Lib

set_option maxRecDepth 100000 in
set_option maxHeartbeats 1600000 in
theorem rlevels_any (l : List It) (A : Option Addr) (c : Nat) (wt : Int) (w : World) (h : IRow w A l) :
    Calls Try.prog 18 #[jv A l.length c wt] w (LevPost l wt w) := by
  have H := Lib.hid h
  obtain ⟨L, hL⟩ : ∃ n, n = l.length := ⟨_, rfl⟩
  have HL := Lib.hid hL
  have HVL := Lib.hid (fun (W : World) (k : IRow W A l) => rvalid_any l A c wt W k)
  rw [← hL] at HVL ⊢
  have B0 := Lib.hid ((Below.refl w.heap.size w).alloc (Nat.le_refl _) (.cells #[.slice A L c, .int .i64 wt] 25))
  have J0 := Lib.hid (JBox.new (w := w) (A := A) (n := L) (c := c) (wt := wt) w.heap.size rfl)
  obtain ⟨b, hb⟩ : ∃ b, b = w.heap.size := ⟨_, rfl⟩
  clear h hL
  go_enter Try.func18, Try.ntmps18
  go_upto_region 1 with fail
  rw [← hb] at J0 ⊢
  generalize w.alloc (.cells #[.slice A L c, .int .i64 wt] 25) = w1 at *
  obtain ⟨j0, j1, jl⟩ := J0.out
  clear hb
  go_wp2_with fail
  refine (HVL.out w1 (H.out.below B0.out)).mono ?_
  rintro e w2 ⟨rfl, hB2⟩
  have J2 := Lib.hid (J0.out.below hB2 jl)
  have B2 := Lib.hid (B0.out.trans (hB2.mono B0.out.size))
  clear j0 j1 jl J0 B0 hB2
  obtain ⟨j0, j1, jl⟩ := J2.out
  by_cases he : validR l wt = 0
  · obtain ⟨p1, p2, p3⟩ := valid_ok he
    have HE := Lib.hid he
    have HOK := Lib.hid p3
    rw [he]
    rw [← HL.out] at p1
    clear he p2 p3
    have hmk := make_ints w2 L (by omega)
    have O0 := Lib.hid (Own.laid (k := .i64) (T := 3) w2 w2.heap.size (Nat.le_refl _) (List.replicate L 0) L (by simp) (by omega))
    have B4 := Lib.hid ((Below.refl w2.heap.size w2).alloc (Nat.le_refl _) (.cells ((List.replicate L 0).map (Value.int .i64)).toArray 3))
    have LI := Lib.hid (RInv.start HOK.out)
    rw [← HL.out] at LI
    obtain ⟨g, hg⟩ : ∃ g, g = w2.heap.size := ⟨_, rfl⟩
    have HG := Lib.hid hg
    rw [← hg] at O0 hmk B4
    generalize w2.alloc (.cells ((List.replicate L 0).map (Value.int .i64)).toArray 3) = w4 at *
    generalize List.replicate L (0 : Int) = z0 at *
    have HJ := Lib.hid (show ∀ W, Below g w2 W → JBox W b A L c wt from fun W k => J2.out.below k (by rw [HG.out]; exact J2.out.lt))
    have HI := Lib.hid (show ∀ W, Below g w2 W → IRow W A l from fun W k => H.out.below (B2.out.trans ((show Below w2.heap.size w2 W by rw [← HG.out]; exact k).mono B2.out.size)))
    clear hg
    go_wp2_with fail
    clear j0 j1 jl hmk
    go_loopw [6] (fun iv wr => ∃ (bb : Nat) (zs : List Int), bb ≤ 32 ∧ iv = .int .i64 (bb : Int) ∧ Hid (Own .i64 3 wr g (.slice (some ⟨g, 0, none⟩) L L) zs) ∧ Hid (RInv l bb 0 zs) ∧ Hid (Below g w2 wr)) (fun iv _ => 32 - (intOf iv).toNat)
    case atStart => exact ⟨0, z0, by omega, rfl, O0, LI, B4⟩
    case round =>
      clear O0 LI B4
      obtain ⟨bb, zs, hbb, rfl, O, I, B⟩ := hrel
      by_cases hlt : bb < 32
      · have hb32 : (bb : Int) < 32 := by omega
        have hbd : decide ((bb : Int) < 32) = true := decide_eq_true hb32
        go_wp2_with fail
        go_loopw [7] (fun iv wi => ∃ (y : Nat) (zi : List Int), y ≤ L ∧ iv = .int .i64 (y : Int) ∧ Hid (Own .i64 3 wi g (.slice (some ⟨g, 0, none⟩) L L) zi) ∧ Hid (RInv l bb y zi) ∧ Hid (Below g w2 wi)) (fun iv _ => L - (intOf iv).toNat)
        case atStart => exact ⟨0, zs, by omega, rfl, O, I, B⟩
        case round =>
          clear O I B
          obtain ⟨y, zi, hy, rfl, O, I, B⟩ := hrel
          by_cases hly : y < L
          · obtain ⟨j0, j1, jl⟩ := HJ.out _ B.out
            obtain ⟨ad, rfl, _, c1, _, _⟩ := (HI.out _ B.out).two (x := y) (y := y) (by rw [← HL.out]; exact hly) (by rw [← HL.out]; exact hly)
            have hly' : (y : Int) < (L : Int) := by omega
            have hzl : zi.length = L := by rw [I.out.len, HL.out]
            by_cases e : blk l y = (bb : Int)
            · have HEB := Lib.hid e
              rw [e] at c1
              have hbe : ((bb : Int) == (bb : Int)) = true := by simp
              have hba := base_any l (some ad) (some ⟨g, 0, none⟩) c L wt zi y (by rw [← HL.out]; exact hly) wr (HI.out _ B.out) (by
                obtain ⟨A', c', e1, R', _⟩ := O.out.slice
                injection e1 with e1
                subst e1
                exact R') (by rw [hzl, HL.out]) (fun k hk => by
                have h1 := I.out.bd k hk
                have h2 := (HOK.out k hk).2
                omega)
              rw [← HL.out] at hba
              have HBA := Lib.hid hba
              clear hba e
              go_wp2_with fail
              refine HBA.out.mono ?_
              rintro e w5 ⟨M, rfl, hM, B5⟩
              have O5 := Lib.hid (O.out.below B5)
              have B6 := Lib.hid (B.out.trans (B5.mono (Nat.le_of_lt (own_block O.out (g := g) rfl).2)))
              have d := O5.out.cell hzl.symm y (by rw [hzl]; exact hly)
              have fz := O5.out.frozen hzl.symm y
              have O7 := Lib.hid (O5.out.store hzl.symm y M)
              have B7 := Lib.hid (B6.out.setCell (p := ⟨g, y, none⟩) (Nat.le_refl g) (.int .i64 M))
              have I7 := Lib.hid (I.out.set HOK.out (by rw [← HL.out]; exact hly) HEB.out hM)
              clear hM B5 j0 j1 jl c1
              go_wp2_with fail
              go_roundw
              case rel =>
                exact ⟨y + 1, zi.set y M, by omega, by go_num, O7, I7, B7⟩
              case measure => simp [intOf]; omega
            · have I7 := Lib.hid (I.out.skip e)
              have hbe : (blk l y == (bb : Int)) = false := by simpa using e
              generalize blk l y = bY at *
              clear e
              go_wp2_with fail
              go_roundw
              case rel => exact ⟨y + 1, zi, by omega, by go_num, O, I7, B⟩
              case measure => simp [intOf]; omega
          · obtain rfl : y = L := by omega
            have I7 := Lib.hid (show RInv l (bb + 1) 0 zi from RInv.nextB (by rw [← HL.out]; exact I.out))
            clear hly
            go_wp2_with fail
            go_roundw
            case rel => exact ⟨bb + 1, zi, by omega, by go_num, O, I7, B⟩
            case measure => simp [intOf]; omega
      · obtain rfl : bb = 32 := by omega
        have HLV := Lib.hid (I.out.done HOK.out)
        have O2 := Lib.hid (O.out.base (show w.heap.size ≤ g by rw [HG.out]; exact B2.out.size))
        have B3 := Lib.hid (B2.out.trans ((show Below w2.heap.size w2 wr by rw [← HG.out]; exact B.out).mono B2.out.size))
        clear O I B hlt
        go_wp2_with fail
        go_ret2
        exact ⟨_, zs, by rw [HE.out]; rfl, O2.out, fun _ => HLV.out, fun hne => absurd HE.out hne, B3.out⟩
  · have HE := Lib.hid he
    have hne : (validR l wt != 0) = true := bne_iff_ne.2 he
    clear he
    go_wp2_with fail
    go_ret2
    exact ⟨_, [], rfl, Own.nil, fun h => absurd h HE.out, fun _ => rfl, B2.out⟩
end Go.Proofs.Ytpimdcljecipeaa
