/-
  Stage 11: the reference's Deepest.
-/
import Derived.Test.YtpimdcljecipeaaJRef4
import Derived.Test.YtpimdcljecipeaaJDeep
import Derived.Test.YtpimdcljecipeaaJBack
set_option linter.unusedSimpArgs false
set_option linter.unusedVariables false
namespace Go.Proofs.Ytpimdcljecipeaa
open Go.RowKit Go.Lib

theorem IsBackG.back {l : List It} {v : List Int} {y : Nat} {c : List Nat} (h : IsBackG l v v y c) : IsBack l v y c := by
  induction h with
  | one y h => exact .one y h
  | step y x c h1 h2 h3 h4 _ ih => exact .step y x c h1 h2 h3 h4 ih
set_option maxRecDepth 100000 in
set_option maxHeartbeats 1600000 in
theorem rdeepest_any (l : List It) (A : Option Addr) (c : Nat) (wt : Int) (w : World) (h : IRow w A l) :
    Calls Try.prog 23 #[jv A l.length c wt] w (DeepPost l wt w) := by
  have H := Lib.hid h
  have HVL := Lib.hid (fun (W : World) (k : IRow W A l) => rlevels_any l A c wt W k)
  have HBK := Lib.hid (fun (V : Option Addr) (cv : Nat) (v : List Int) (W : World) (k : IRow W A l) (hv : Row .i64 W W.heap.size V v) (hvl : v.length = l.length) (hvb : ∀ k, k < l.length → 0 ≤ v.getD k 0 ∧ v.getD k 0 ≤ 1000000) (bs : List Int) (hbs : ∀ y, y < l.length → IsMaxP (fun x => x < l.length) (fun x => via l v x y) (bs.getD y 0)) (hok : BlkOk l) => back_any l A V c cv wt v W k hv hvl hvb bs hbs hok)
  obtain ⟨L, hL⟩ : ∃ n, n = l.length := ⟨_, rfl⟩
  have HL := Lib.hid hL
  rw [← hL] at HVL ⊢
  have B0 := Lib.hid ((Below.refl w.heap.size w).alloc (Nat.le_refl _) (.cells #[.slice A L c, .int .i64 wt] 25))
  have J0 := Lib.hid (JBox.new (w := w) (A := A) (n := L) (c := c) (wt := wt) w.heap.size rfl)
  obtain ⟨b, hb⟩ : ∃ b, b = w.heap.size := ⟨_, rfl⟩
  clear h hL
  go_enter Try.func23, Try.ntmps23
  go_upto_region 1 with fail
  rw [← hb] at J0 ⊢
  generalize w.alloc (.cells #[.slice A L c, .int .i64 wt] 25) = w1 at *
  obtain ⟨j0, j1, jl⟩ := J0.out
  clear hb
  go_wp2_with fail
  refine (HVL.out w1 (H.out.below B0.out)).mono ?_
  rintro e w2 ⟨v, zs, rfl, O, h1, h2, B2⟩
  have J2 := Lib.hid (J0.out.below B2 jl)
  have BW := Lib.hid (B0.out.trans (B2.mono B0.out.size))
  have H1 := Lib.hid h1
  have H2 := Lib.hid h2
  obtain ⟨vA, vc, rfl, VR, -, hvm, -⟩ := O.slice
  have HVR := Lib.hid VR
  clear j0 j1 jl O VR h1 h2 B2 J0 B0
  obtain ⟨j0, j1, jl⟩ := J2.out
  by_cases he : validR l wt = 0
  · have hlev := H1.out he
    obtain ⟨-, -, hok⟩ := valid_ok he
    have hba := HBK.out vA vc zs w2 (H.out.below BW.out) HVR.out hlev.len (fun k hk => by have h1 := hlev.bound hok k hk; have h2 := (hok k hk).2; omega) zs (fun y hy => hlev.max y hy) hok
    have hzl : zs.length = L := by rw [hlev.len, HL.out]
    rw [← HL.out] at hba
    have HBA := Lib.hid hba
    have HLV := Lib.hid hlev
    have HE := Lib.hid he
    rw [he, hzl]
    clear hba hlev he hok hzl hvm
    go_wp2_with fail
    refine HBA.out.mono ?_
    rintro e w4 ⟨u, ys, rfl, O4, hz, B4⟩
    have HD := Lib.hid (show Deep l ys from by
      rcases hz with ⟨h0, hy⟩ | ⟨y, d, ht, hbk, hy⟩
      · exact ⟨fun _ => hy, fun h => absurd h0 (by omega)⟩
      · refine ⟨fun h0 => ?_, fun _ => ⟨zs, y, d, HLV.out, ht, hbk.back, hy⟩⟩
        have := ht.lt
        rw [HLV.out.len] at this
        omega)
    have O5 := Lib.hid (O4.base BW.out.size)
    have B5 := Lib.hid (BW.out.trans (B4.mono BW.out.size))
    clear hz O4 B4
    go_wp2_with fail
    go_ret2
    exact ⟨u, ys, by rw [HE.out]; rfl, O5.out, fun _ => HD.out, fun g => absurd HE.out g, B5.out⟩
  · have hne : (validR l wt != 0) = true := bne_iff_ne.2 he
    have HE := Lib.hid he
    clear he
    obtain ⟨er, her⟩ : ∃ er, er = validR l wt := ⟨_, rfl⟩
    have HER := Lib.hid her
    rw [← her] at hne ⊢
    clear her
    go_wp2_with fail
    go_ret2
    exact ⟨_, [], by rw [HER.out]; rfl, Own.nil, fun g => absurd g HE.out, fun _ => rfl, BW.out⟩
end Go.Proofs.Ytpimdcljecipeaa
