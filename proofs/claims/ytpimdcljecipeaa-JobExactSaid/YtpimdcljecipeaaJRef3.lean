/-
  Stage 11: the reference's Relation, Base, Levels.
-/
import Derived.Test.YtpimdcljecipeaaJRef2
import Derived.Test.YtpimdcljecipeaaJTop
set_option linter.unusedSimpArgs false
set_option linter.unusedVariables false
namespace Go.Proofs.Ytpimdcljecipeaa
open Go.RowKit Go.Lib

set_option maxHeartbeats 1600000 in
theorem rrelation_any (l : List It) (A : Option Addr) (c : Nat) (wt x y : Int) (w : World) (h : IRow w A l) :
    Calls Try.prog 16 #[jv A l.length c wt, .int .i64 x, .int .i64 y] w (RelPost l wt x y w) := by
  have H := Lib.hid h
  obtain ⟨L, hL⟩ : ∃ n, n = l.length := ⟨_, rfl⟩
  have HL := Lib.hid hL
  have HVL := Lib.hid (fun (W : World) (k : IRow W A l) => rvalid_any l A c wt W k)
  have HRE := Lib.hid (show relE l wt x y = if validR l wt ≠ 0 then (0, validR l wt) else if btw x 0 ((L : Int) - 1) = true ∧ btw y 0 ((L : Int) - 1) = true then (rel l x.toNat y.toNat, 0) else (0, 2) by rw [hL]; rfl)
  rw [← hL] at HVL ⊢
  have B0 := Lib.hid ((Below.refl w.heap.size w).alloc (Nat.le_refl _) (.cells #[.slice A L c, .int .i64 wt] 25))
  have J0 := Lib.hid (JBox.new (w := w) (A := A) (n := L) (c := c) (wt := wt) w.heap.size rfl)
  obtain ⟨b, hb⟩ : ∃ b, b = w.heap.size := ⟨_, rfl⟩
  clear h hL
  go_enter Try.func16, Try.ntmps16
  go_upto_region 1 with fail
  rw [← hb] at J0 ⊢
  generalize w.alloc (.cells #[.slice A L c, .int .i64 wt] 25) = w1 at *
  obtain ⟨j0, j1, jl⟩ := J0.out
  clear hb
  go_wp2_with fail
  refine (HVL.out w1 (H.out.below B0.out)).mono ?_
  rintro e w2 ⟨rfl, hB2⟩
  have J2 := Lib.hid (J0.out.below hB2 jl)
  have B2 := Lib.hid (B0.out.trans (hB2.mono B0.out.size))
  clear j0 j1 jl J0 B0 hB2 HVL
  obtain ⟨j0, j1, jl⟩ := J2.out
  by_cases he : validR l wt = 0
  · have hre := HRE.out
    rw [if_neg (fun g => g he)] at hre
    rw [he]
    clear he HRE
    by_cases hx1 : x < 0
    · rw [if_neg (fun g => by have := (btw_iff.1 g.1).1; omega)] at hre
      have HRE := Lib.hid hre
      clear hre
      go_wp2_with fail
      go_ret2
      exact ⟨ret_r2 HRE.out, B2.out⟩
    · by_cases hx2 : (L : Int) ≤ x
      · rw [if_neg (fun g => by have := (btw_iff.1 g.1).2; omega)] at hre
        have HRE := Lib.hid hre
        clear hre
        go_wp2_with fail
        go_ret2
        exact ⟨ret_r2 HRE.out, B2.out⟩
      · by_cases hy1 : y < 0
        · rw [if_neg (fun g => by have := (btw_iff.1 g.2).1; omega)] at hre
          have HRE := Lib.hid hre
          clear hre
          go_wp2_with fail
          go_ret2
          exact ⟨ret_r2 HRE.out, B2.out⟩
        · by_cases hy2 : (L : Int) ≤ y
          · rw [if_neg (fun g => by have := (btw_iff.1 g.2).2; omega)] at hre
            have HRE := Lib.hid hre
            clear hre
            go_wp2_with fail
            go_ret2
            exact ⟨ret_r2 HRE.out, B2.out⟩
          · rw [if_pos ⟨btw_iff.2 (by omega), btw_iff.2 (by omega)⟩] at hre
            have HRE := Lib.hid hre
            obtain ⟨X, rfl⟩ := Int.eq_ofNat_of_zero_le (show 0 ≤ x by omega)
            obtain ⟨Y, rfl⟩ := Int.eq_ofNat_of_zero_le (show 0 ≤ y by omega)
            have hrl := kind_any l A c wt X Y (by rw [← HL.out]; omega) (by rw [← HL.out]; omega) w2 (H.out.below B2.out)
            rw [← HL.out] at hrl
            have HRL := Lib.hid hrl
            clear hre hrl
            go_wp2_with fail
            refine HRL.out.mono ?_
            rintro e w3 ⟨rfl, B3⟩
            have HB3 := Lib.hid (B2.out.trans (B3.mono B2.out.size))
            clear B3
            go_wp2_with fail
            go_ret2
            exact ⟨ret_r2 HRE.out, HB3.out⟩
  · have hre := HRE.out
    rw [if_pos he] at hre
    have HRE := Lib.hid hre
    have hne : (validR l wt != 0) = true := bne_iff_ne.2 he
    clear he hre
    go_wp2_with fail
    go_ret2
    exact ⟨ret_r2 HRE.out, B2.out⟩
/-- What Base leaves. -/
def BasePost (l : List It) (v : List Int) (y : Nat) (w : World) (e : Ending) (w' : World) : Prop :=
  ∃ M, e = .returned (.int .i64 M) ∧ IsMaxP (fun x => x < l.length) (fun x => via l v x y) M ∧ Below w.heap.size w w'
set_option maxRecDepth 100000 in
set_option maxHeartbeats 3200000 in
theorem base_any (l : List It) (A V : Option Addr) (c cv : Nat) (wt : Int) (v : List Int) (y : Nat) (hy : y < l.length) (w : World) (h : IRow w A l) (hv : Row .i64 w w.heap.size V v) (hvl : v.length = l.length) (hb : ∀ k, k < l.length → 0 ≤ v.getD k 0 ∧ v.getD k 0 ≤ 1000000) :
    Calls Try.prog 31 #[jv A l.length c wt, .slice V l.length cv, .int .i64 (y : Int)] w (BasePost l v y w) := by
  have H := Lib.hid h
  have HV := Lib.hid hv
  have HM := Lib.hid h.len
  obtain ⟨L, hL⟩ : ∃ n, n = l.length := ⟨_, rfl⟩
  have HL := Lib.hid hL
  have HVL := Lib.hid hvl
  have HBD := Lib.hid hb
  have HK := Lib.hid (fun (x : Nat) (hx : x < l.length) (W : World) (k : IRow W A l) => kind_any l A c wt x y hx hy W k)
  have HS := Lib.hid (fun (x : Nat) (hx : x < l.length) (W : World) (k : IRow W A l) => strict_any l A c wt x y hx hy W k)
  rw [← hL] at HK HS HVL HBD hy ⊢
  have hLm : L ≤ 9223372036854775807 := by rw [hL]; exact h.len
  have B0 := Lib.hid ((Below.refl w.heap.size w).alloc (Nat.le_refl _) (.cells #[.slice A L c, .int .i64 wt] 25))
  have J0 := Lib.hid (JBox.new (w := w) (A := A) (n := L) (c := c) (wt := wt) w.heap.size rfl)
  obtain ⟨b, hb2⟩ : ∃ b, b = w.heap.size := ⟨_, rfl⟩
  clear h hL hv hvl hb
  go_enter Try.func31, Try.ntmps31
  go_upto_region 1 with fail
  rw [← hb2] at J0 ⊢
  generalize w.alloc (.cells #[.slice A L c, .int .i64 wt] 25) = w1 at *
  have HJ := Lib.hid (show ∀ W, Below w1.heap.size w1 W → JBox W b A L c wt from fun W k => J0.out.below k J0.out.lt)
  clear hb2 J0
  go_wp2_with fail
  go_loopw [7, 8] (fun mv iv wr => ∃ (x : Nat) (M : Int), x ≤ L ∧ iv = .int .i64 (x : Int) ∧ mv = .int .i64 M ∧ Hid (IsMaxP (fun z => z < x) (fun z => via l v z y) M) ∧ (0 ≤ M ∧ M ≤ 1000001) ∧ Hid (Below w1.heap.size w1 wr)) (fun _ iv _ => L - (intOf iv).toNat)
  case atStart => exact ⟨0, 0, by omega, rfl, rfl, Lib.hid (IsMaxP.start _), by omega, Lib.hid (Below.refl _ _)⟩
  case round =>
    obtain ⟨x, M, hx, rfl, rfl, HMX, hMb, B⟩ := hrel
    obtain ⟨j0, j1, jl⟩ := HJ.out _ B.out
    have BW := Lib.hid (B0.out.trans (B.out.mono B0.out.size))
    by_cases hlt : x < L
    · have hk1 := HK.out x hlt wr (H.out.below BW.out)
      have HK1 := Lib.hid hk1
      have hrc := rel_cases l x y
      have HVS := Lib.hid (fun (g : rel l x y ≠ 0) => via_str (v := v) g)
      have HVZ := Lib.hid (fun (g : rel l x y = 0) => via_zero (v := v) g)
      have hs01 : 0 ≤ str1 l x y ∧ str1 l x y ≤ 1 := by unfold str1; split <;> omega
      have HMORE := Lib.hid (fun (N : Int) (hN : N = if M < via l v x y then via l v x y else M) => HMX.out.more (q := fun z => z < x + 1) (y := x) (fun z => by show z < x + 1 ↔ z < x ∨ z = x; omega) hN)
      obtain ⟨r, hr⟩ : ∃ r, r = rel l x y := ⟨_, rfl⟩
      rw [← hr] at HK1 HVS HVZ hrc
      have HS1 := Lib.hid (fun (W : World) (k : Below w1.heap.size w1 W) => HS.out x hlt W (H.out.below (B0.out.trans (k.mono B0.out.size))))
      obtain ⟨s1, hs⟩ : ∃ s, s = str1 l x y := ⟨_, rfl⟩
      simp only [← hs] at HVS HS1 hs01
      have HVR := Lib.hid (fun (W : World) (k : Below w1.heap.size w1 W) => (show Row .i64 W W.heap.size V v from HV.out.below (B0.out.trans (k.mono B0.out.size))))
      clear hk1 hr hs HMX
      go_wp2_with fail
      refine HK1.out.mono ?_
      rintro e w2 ⟨rfl, B2⟩
      have HB2 := Lib.hid (B.out.trans (B2.mono B.out.size))
      clear B2 j0 j1 jl
      by_cases h0 : r = 0
      · have HN := Lib.hid (HMORE.out M (by rw [HVZ.out h0, if_neg (by omega)]))
        subst h0
        clear HMORE HVS HVZ hrc
        go_wp2_with fail
        go_roundw
        case rel => exact ⟨x + 1, M, by omega, by go_num, rfl, HN, hMb, HB2⟩
        case measure => simp [intOf]; omega
      · have hrp : 0 < r := by rcases hrc with e | e | e <;> omega
        obtain ⟨vad, rfl, _, cv0⟩ := HVR.out w2 HB2.out x (by rw [HVL.out]; exact hlt)
        have hzb := HBD.out x hlt
        obtain ⟨z, hz⟩ : ∃ z, z = v.getD x 0 := ⟨_, rfl⟩
        obtain ⟨M2, hM2⟩ : ∃ t, t = max2 M (z + s1) := ⟨_, rfl⟩
        have hmx : ∀ w ts t, (Builtin.max_ ts t #[.int .i64 M, .int .i64 (z + s1)]).run Try.prog w = .ok (.int .i64 M2) w := fun w ts t => by rw [run_max2, hM2]
        have HN := Lib.hid (HMORE.out M2 (by rw [hM2, HVS.out h0, hz]; rfl))
        have HMXE := Lib.hid (show max M (z + s1) = M2 by rw [hM2]; unfold max2; split <;> omega)
        have HMXF := Lib.hid (show (if M < z + s1 then z + s1 else M) = M2 by rw [hM2]; rfl)
        have hM2b : 0 ≤ M2 ∧ M2 ≤ 1000001 := by
          rw [hM2]; unfold max2; rw [← hz] at hzb; split <;> omega
        rw [← hz] at cv0 hzb
        obtain ⟨j0, j1, jl⟩ := HJ.out _ HB2.out
        have HVW := Lib.hid (fun (W : World) (k : Below w1.heap.size w1 W) => (show W.cell? (vad.add x) = some (.int .i64 z) from by
          obtain ⟨_, e', _, cc⟩ := HVR.out W k x (by rw [HVL.out]; exact hlt)
          obtain rfl : vad = _ := by injection e'
          rw [cc, hz]))
        have HBD2 := Lib.hid HB2.out.drew
        have hx1 : (x : Int) < (L : Int) := by omega
        clear hM2 hz HMORE HVS HVZ hrc h0
        go_upto_region 6 with fail
        go_region_law (go_simp; go_at_call 42; refine (HS1.out w2.drew HBD2.out).mono ?_; rintro e w7 ⟨rfl, B7⟩; have B8 := Lib.hid (HBD2.out.trans (B7.mono HBD2.out.size)); have cv7 := HVW.out w7 B8.out)
        all_goals
          clear cv0 cv7 j0 j1 jl hmx
          go_wp2_with fail
          go_roundw
          case rel => exact ⟨x + 1, M2, by omega, by go_num, congrArg (Value.int .i64) (by first | exact HMXE.out | exact HMXF.out), HN, hM2b, B8⟩
          case measure => simp [intOf]; omega
    · obtain rfl : x = L := by omega
      have HF := Lib.hid (show IsMaxP (fun z => z < l.length) (fun z => via l v z y) M by rw [← HL.out]; exact HMX.out)
      clear HMX hlt
      go_wp2_with fail
      go_ret
      exact ⟨M, rfl, HF.out, BW.out⟩
/-- The levels, all of a lesser block finished, and the first y of this block. -/
structure RInv (l : List It) (b y : Nat) (zs : List Int) : Prop where
  len : zs.length = l.length
  fin : ∀ x, x < l.length → (blk l x < b ∨ (blk l x = b ∧ x < y)) → IsMaxP (fun z => z < l.length) (fun z => via l zs z x) (zs.getD x 0)
  rest : ∀ x, x < l.length → ¬ (blk l x < b ∨ (blk l x = b ∧ x < y)) → zs.getD x 0 = 0
  bd : ∀ x, x < l.length → 0 ≤ zs.getD x 0 ∧ zs.getD x 0 ≤ blk l x
theorem RInv.start {l : List It} (hb : BlkOk l) : RInv l 0 0 (List.replicate l.length 0) := by
  have e : ∀ y, (List.replicate l.length (0 : Int)).getD y 0 = 0 := fun y => by
    rw [List.getD_eq_getElem?_getD, List.getElem?_replicate]; split <;> rfl
  exact ⟨by simp, fun x hx h => by have := (hb x hx).1; omega, fun x _ _ => e x, fun x hx => by rw [e]; have := (hb x hx).1; omega⟩
theorem RInv.skip {l : List It} {b y : Nat} {zs : List Int} (h : RInv l b y zs) (hy : blk l y ≠ (b : Int)) : RInv l b (y + 1) zs := by
  have e : ∀ x, (blk l x < (b : Int) ∨ (blk l x = (b : Int) ∧ x < y + 1)) ↔ (blk l x < (b : Int) ∨ (blk l x = (b : Int) ∧ x < y)) := fun x => by
    constructor
    · rintro (g | ⟨g1, g2⟩)
      · exact Or.inl g
      · by_cases e : x = y
        · exact absurd (e ▸ g1) hy
        · exact Or.inr ⟨g1, by omega⟩
    · rintro (g | ⟨g1, g2⟩)
      · exact Or.inl g
      · exact Or.inr ⟨g1, by omega⟩
  exact ⟨h.len, fun x hx g => h.fin x hx ((e x).1 g), fun x hx g => h.rest x hx (fun k => g ((e x).2 k)), h.bd⟩
theorem RInv.nextB {l : List It} {b : Nat} {zs : List Int} (h : RInv l b l.length zs) : RInv l (b + 1) 0 zs := by
  have e : ∀ x, x < l.length → ((blk l x < ((b + 1 : Nat) : Int) ∨ (blk l x = ((b + 1 : Nat) : Int) ∧ x < 0)) ↔ (blk l x < (b : Int) ∨ (blk l x = (b : Int) ∧ x < l.length))) := fun x hx => by omega
  exact ⟨h.len, fun x hx g => h.fin x hx ((e x hx).1 g), fun x hx g => h.rest x hx (fun k => g ((e x hx).2 k)), h.bd⟩
theorem RInv.set {l : List It} {b y : Nat} {zs : List Int} {M : Int} (h : RInv l b y zs) (hb : BlkOk l) (hyl : y < l.length) (hy : blk l y = (b : Int)) (hM : IsMaxP (fun z => z < l.length) (fun z => via l zs z y) M) : RInv l b (y + 1) (zs.set y M) := by
  have hyz : y < zs.length := by rw [h.len]; exact hyl
  have same : ∀ x z, blk l x ≤ b → via l (zs.set y M) z x = via l zs z x := fun x z hx => via_same fun g => by
    refine getD_set_other (fun e => ?_) M
    have h1 := (rel_pos g).2
    rw [← e, hy] at h1
    omega
  refine ⟨by rw [List.length_set]; exact h.len, fun x hx g => ?_, fun x hx g => ?_, fun x hx => ?_⟩
  · have hxb : blk l x ≤ (b : Int) := by omega
    by_cases e : y = x
    · subst e
      rw [getD_set_same hyz]
      exact hM.congr (fun _ => Iff.rfl) (fun z _ => (same y z hxb).symm)
    · rw [getD_set_other e]
      exact (h.fin x hx (by rcases g with g | ⟨g1, g2⟩; exact Or.inl g; exact Or.inr ⟨g1, by omega⟩)).congr (fun _ => Iff.rfl) (fun z _ => (same x z hxb).symm)
  · have e : y ≠ x := fun e => g (Or.inr ⟨by rw [← e]; exact hy, by omega⟩)
    rw [getD_set_other e]
    exact h.rest x hx (fun k => g (by rcases k with k | ⟨k1, k2⟩; exact Or.inl k; exact Or.inr ⟨k1, by omega⟩))
  · by_cases e : y = x
    · subst e
      rw [getD_set_same hyz]
      refine ⟨hM.pos, ?_⟩
      have hb0 := (hb _ hyl).1
      rcases hM.hit with e | ⟨z, hz, e⟩
      · omega
      · have e' : via l zs z y = M := e
        by_cases gr : rel l z y = 0
        · rw [via_zero gr] at e'; omega
        · rw [via_pos gr] at e'
          have h1 := (rel_pos gr).2
          have h2 := (h.bd _ hz).2
          rcases rel_cases l z y with cc | cc | cc <;> omega
    · rw [getD_set_other e]; exact h.bd x hx
theorem RInv.done {l : List It} {zs : List Int} (h : RInv l 32 0 zs) (hb : BlkOk l) : Lev l zs :=
  ⟨h.len, fun y hy => h.fin y hy (Or.inl (by have := (hb y hy).2; omega))⟩
end Go.Proofs.Ytpimdcljecipeaa
