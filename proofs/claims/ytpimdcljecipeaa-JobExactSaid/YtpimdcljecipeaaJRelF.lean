/-
  Stage 11: the program's Relation.
-/
import Derived.Test.YtpimdcljecipeaaJBox
set_option linter.unusedSimpArgs false
set_option linter.unusedVariables false
namespace Go.Proofs.Ytpimdcljecipeaa
open Go.RowKit Go.Lib

/-- What Relation answers. -/
def relE (l : List It) (wt x y : Int) : Int × Int :=
  if validR l wt ≠ 0 then (0, validR l wt) else if btw x 0 ((l.length : Int) - 1) = true ∧ btw y 0 ((l.length : Int) - 1) = true then (rel l x.toNat y.toNat, 0) else (0, 2)
def RelPost (l : List It) (wt x y : Int) (w : World) (e : Ending) (w' : World) : Prop := e = .returned (R2 (relE l wt x y)) ∧ Below w.heap.size w w'
set_option maxHeartbeats 1600000 in
theorem relationF_any (l : List It) (A : Option Addr) (c : Nat) (wt x y : Int) (w : World) (h : IRow w A l) :
    Calls Try.prog 15 #[jv A l.length c wt, .int .i64 x, .int .i64 y] w (RelPost l wt x y w) := by
  have H := Lib.hid h
  have HM := Lib.hid h.len
  obtain ⟨L, hL⟩ : ∃ n, n = l.length := ⟨_, rfl⟩
  have HL := Lib.hid hL
  have HVL := Lib.hid (fun (W : World) (k : IRow W A l) => valid_any l A c wt W k)
  have HRE := Lib.hid (show relE l wt x y = if validR l wt ≠ 0 then (0, validR l wt) else if btw x 0 ((L : Int) - 1) = true ∧ btw y 0 ((L : Int) - 1) = true then (rel l x.toNat y.toNat, 0) else (0, 2) by rw [hL]; rfl)
  rw [← hL] at HVL ⊢
  have B0 := Lib.hid ((Below.refl w.heap.size w).alloc (Nat.le_refl _) (.cells #[.slice A L c, .int .i64 wt] 25))
  have J0 := Lib.hid (JBox.new (w := w) (A := A) (n := L) (c := c) (wt := wt) w.heap.size rfl)
  obtain ⟨b, hb⟩ : ∃ b, b = w.heap.size := ⟨_, rfl⟩
  clear h hL
  go_enter Try.func15, Try.ntmps15
  go_upto_region 1 with fail
  rw [← hb] at J0 ⊢
  generalize w.alloc (.cells #[.slice A L c, .int .i64 wt] 25) = w1 at *
  obtain ⟨j0, j1, jl⟩ := J0.out
  clear hb
  go_wp2_with fail
  refine (HVL.out w1 (H.out.below B0.out)).mono ?_
  rintro e w2 ⟨rfl, hB2⟩
  have J2 := Lib.hid (J0.out.below hB2 jl)
  have B2 := Lib.hid (B0.out.trans (hB2.mono B0.out.size))
  clear j0 j1 jl J0 B0 hB2 HVL
  obtain ⟨j0, j1, jl⟩ := J2.out
  by_cases he : validR l wt = 0
  · have hre := HRE.out
    rw [if_neg (fun g => g he)] at hre
    have HIX := Lib.hid (fun (x : Int) (W : World) => index_any A L c x (by rw [HL.out]; exact HM.out) W)
    rw [he]
    clear he HRE
    go_wp2_with fail
    refine (HIX.out x _).mono ?_
    rintro e w3 ⟨rfl, rfl⟩
    cases hx : btw x 0 ((L : Int) - 1)
    · rw [if_neg (fun g => by have := g.1; rw [hx] at this; cases this)] at hre
      have HRE := Lib.hid hre
      clear hre
      go_wp2_with fail
      go_ret2
      exact ⟨ret_r2 HRE.out, B2.out⟩
    · go_wp2_with fail
      refine (HIX.out y _).mono ?_
      rintro e w3 ⟨rfl, rfl⟩
      cases hy : btw y 0 ((L : Int) - 1)
      · rw [if_neg (fun g => by have := g.2; rw [hy] at this; cases this)] at hre
        have HRE := Lib.hid hre
        clear hre
        go_wp2_with fail
        go_ret2
        exact ⟨ret_r2 HRE.out, B2.out⟩
      · rw [if_pos ⟨hx, hy⟩] at hre
        have HRE := Lib.hid hre
        obtain ⟨x1, x2⟩ := btw_iff.1 hx
        obtain ⟨y1, y2⟩ := btw_iff.1 hy
        obtain ⟨X, rfl⟩ := Int.eq_ofNat_of_zero_le x1
        obtain ⟨Y, rfl⟩ := Int.eq_ofNat_of_zero_le y1
        have hrl := relation_any l A c X Y (by rw [← HL.out]; omega) (by rw [← HL.out]; omega) w3 (H.out.below B2.out)
        rw [← HL.out] at hrl
        have HRL := Lib.hid hrl
        clear hre hx hy x1 x2 y1 y2 hrl
        go_wp2_with fail
        refine HRL.out.mono ?_
        rintro e w3 ⟨rfl, q, rfl⟩
        go_wp2_with fail
        go_ret2
        exact ⟨ret_r2 HRE.out, bdn B2.out⟩
  · have hre := HRE.out
    rw [if_pos he] at hre
    have HRE := Lib.hid hre
    have hne : (validR l wt != 0) = true := bne_iff_ne.2 he
    clear he hre
    go_wp2_with fail
    go_ret2
    exact ⟨ret_r2 HRE.out, B2.out⟩
end Go.Proofs.Ytpimdcljecipeaa
