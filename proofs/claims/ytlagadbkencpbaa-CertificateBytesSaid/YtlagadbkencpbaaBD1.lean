/-
  YBelP, JRef3, YRLea, YBack, YRBd, YCha, YExA, PH, PW, PO: joined.
-/
import Derived.Deep.SlicePairs
import Derived.Deep.Strs
import Derived.WideShapes
import Derived.ChangeSame
import Derived.BigQuiet
import Derived.ChangeSlices
import Derived.ChangeArms
import Derived.SizedLaws
import Derived.Test.YtlagadbkencpbaaBA1
import Derived.Test.YtlagadbkencpbaaBA2
import Derived.Test.YtlagadbkencpbaaBA3
import Derived.Test.YtlagadbkencpbaaBA4
import Derived.Test.YtlagadbkencpbaaBB1
import Derived.Test.YtlagadbkencpbaaBC1
set_option linter.unusedSimpArgs false
set_option linter.unusedVariables false
namespace Go.Proofs.Ytlagadbkencpbaa
open Go.RowKit Go.Lib

/-- What is visited ahead of the item y of the block b. -/
def Vis (l : List It) (b y x : Nat) : Prop := blk l x < b ∨ (blk l x = b ∧ x < y)
structure BInv (l : List It) (wt : Int) (b y : Nat) (zs : List Int) : Prop where
  len : zs.length = l.length
  code : ∀ x, x < l.length → Vis l b y x → ∃ K : Nat, zs.getD x 0 = K ∧ isC (rnd l x).toNat wt.toNat K = true
  sort : ∀ z x, z < l.length → x < l.length → Vis l b y x → via l zs z x ≤ zs.getD x 0
  bd : ∀ x, 0 ≤ zs.getD x 0 ∧ zs.getD x 0 ≤ 4095
theorem BInv.start {l : List It} (wt : Int) (hb : BlkOk l) : BInv l wt 0 0 (List.replicate l.length 0) :=
  ⟨by simp, fun x hx h => by have := (hb x hx).1; rcases h with h | h <;> omega, fun z x _ hx h => by have := (hb x hx).1; rcases h with h | h <;> omega, fun x => by rw [getD_zeros]; omega⟩
theorem BInv.skip {l : List It} {wt : Int} {b y : Nat} {zs : List Int} (h : BInv l wt b y zs) (hy : blk l y ≠ (b : Int)) : BInv l wt b (y + 1) zs := by
  have hv : ∀ x, Vis l b (y + 1) x → Vis l b y x := fun x k => by
    rcases k with k | ⟨k1, k2⟩
    · exact Or.inl k
    · rcases Nat.eq_or_lt_of_le (Nat.le_of_lt_succ k2) with e | e
      · subst e; exact absurd k1 hy
      · exact Or.inr ⟨k1, e⟩
  exact ⟨h.len, fun x hx k => h.code x hx (hv x k), fun z x hz hx k => h.sort z x hz hx (hv x k), h.bd⟩
theorem BInv.nextB {l : List It} {wt : Int} {b : Nat} {zs : List Int} (h : BInv l wt b l.length zs) : BInv l wt (b + 1) 0 zs := by
  have hv : ∀ x, x < l.length → Vis l (b + 1) 0 x → Vis l b l.length x := fun x hx k => by
    rcases k with k | ⟨_, k2⟩
    · rcases Int.lt_or_le (blk l x) b with g | g
      · exact Or.inl g
      · exact Or.inr ⟨by omega, hx⟩
    · omega
  exact ⟨h.len, fun x hx k => h.code x hx (hv x hx k), fun z x hz hx k => h.sort z x hz hx (hv x hx k), h.bd⟩
theorem BInv.set {l : List It} {wt : Int} {b y : Nat} {zs : List Int} {M d k : Int} (hf : FormOk l wt) (h : BInv l wt b y zs) (hyl : y < l.length) (hy : blk l y = (b : Int)) (hM : IsMaxP (fun z => z < l.length) (fun z => via l zs z y) M) (hd : 0 ≤ d) (hk : nextZ (M + d) (rnd l y) wt = (k, 0)) : BInv l wt b (y + 1) (zs.set y k) := by
  have yv : y < zs.length := by rw [h.len]; exact hyl
  have hM0 := hM.pos
  have hrb := hf.rb y hyl
  have hkb := next_bd (show 0 ≤ M + d by omega) hrb hf.wb hk
  have hkc : ∃ K : Nat, k = K ∧ isC (rnd l y).toNat wt.toNat K = true := by
    rcases nextI (show 0 ≤ M + d by omega) hrb hf.wb with ⟨J, e', g1, g2, g3, g4⟩ | ⟨e', g⟩
    · rw [e'] at hk
      injection hk with hk
      exact ⟨J, hk.symm, g3⟩
    · rw [e'] at hk
      injection hk with _ hk
      omega
  have hv : ∀ x, Vis l b (y + 1) x → x = y ∨ (x ≠ y ∧ Vis l b y x ∧ rel l y x = 0) := fun x g => by
    by_cases e : x = y
    · exact Or.inl e
    · refine Or.inr ⟨e, ?_, Decidable.byContradiction fun r => ?_⟩
      · rcases g with g | ⟨g1, g2⟩
        · exact Or.inl g
        · exact Or.inr ⟨g1, by omega⟩
      · have := (rel_pos r).2
        rcases g with g | ⟨g1, g2⟩ <;> omega
  refine ⟨by rw [List.length_set]; exact h.len, fun x hx g => ?_, fun z x hz hx g => ?_, fun x => ?_⟩
  · rcases hv x g with rfl | ⟨hne, hvis, hr⟩
    · rw [getDset yv, if_pos rfl]; exact hkc
    · rw [getDset yv, if_neg (fun e => hne e.symm)]; exact h.code x hx hvis
  · rcases hv x g with rfl | ⟨hne, hvis, hr⟩
    · rw [getDset yv, if_pos rfl, via_set yv (rel_self l x)]
      have : via l zs z x ≤ M := hM.le z hz
      omega
    · rw [getDset yv, if_neg (fun e => hne e.symm), via_set yv hr]; exact h.sort z x hz hx hvis
  · rw [getDset yv]
    split
    · omega
    · exact h.bd x
theorem BInv.plan {l : List It} {wt : Int} {zs : List Int} (hb : BlkOk l) (h : BInv l wt 32 0 zs) : Plan l wt zs :=
  have hv : ∀ x, x < l.length → Vis l 32 0 x := fun x hx => Or.inl (by have := (hb x hx).2; show blk l x < 32; omega)
  ⟨fun y hy => h.code y hy (hv y hy), fun x y hx hy => h.sort x y hx hy (hv y hy)⟩
end Go.Proofs.Ytlagadbkencpbaa

namespace Go.Proofs.Ytlagadbkencpbaa
open Go.RowKit Go.Lib

/-- What Base leaves. -/
def BasePost (l : List It) (v : List Int) (y : Nat) (w : World) (e : Ending) (w' : World) : Prop :=
  ∃ M, e = .returned (.int .i64 M) ∧ IsMaxP (fun x => x < l.length) (fun x => via l v x y) M ∧ Below w.heap.size w w'
set_option maxRecDepth 100000 in
set_option maxHeartbeats 3200000 in
theorem base_any (l : List It) (A V : Option Addr) (c cv : Nat) (wt : Int) (v : List Int) (y : Nat) (hy : y < l.length) (w : World) (h : IRow w A l) (hv : Row .i64 w w.heap.size V v) (hvl : v.length = l.length) (hb : ∀ k, k < l.length → 0 ≤ v.getD k 0 ∧ v.getD k 0 ≤ 1000000) :
    Calls Try.prog 64 #[jv A l.length c wt, .slice V l.length cv, .int .i64 (y : Int)] w (BasePost l v y w) := by
  have H := Lib.hid h
  have HV := Lib.hid hv
  have HM := Lib.hid h.len
  obtain ⟨L, hL⟩ : ∃ n, n = l.length := ⟨_, rfl⟩
  have HL := Lib.hid hL
  have HVL := Lib.hid hvl
  have HBD := Lib.hid hb
  have HK := Lib.hid (fun (x : Nat) (hx : x < l.length) (W : World) (k : IRow W A l) => kind_any l A c wt x y hx hy W k)
  have HS := Lib.hid (fun (x : Nat) (hx : x < l.length) (W : World) (k : IRow W A l) => strict_any l A c wt x y hx hy W k)
  rw [← hL] at HK HS HVL HBD hy ⊢
  have hLm : L ≤ 9223372036854775807 := by rw [hL]; exact h.len
  have B0 := Lib.hid ((Below.refl w.heap.size w).alloc (Nat.le_refl _) (.cells #[.slice A L c, .int .i64 wt] 39))
  have J0 := Lib.hid (JBox.new (w := w) (A := A) (n := L) (c := c) (wt := wt) w.heap.size rfl)
  obtain ⟨b, hb2⟩ : ∃ b, b = w.heap.size := ⟨_, rfl⟩
  clear h hL hv hvl hb
  go_enter Try.func64, Try.ntmps64
  go_upto_region 1 with fail
  rw [← hb2] at J0 ⊢
  generalize w.alloc (.cells #[.slice A L c, .int .i64 wt] 39) = w1 at *
  have HJ := Lib.hid (show ∀ W, Below w1.heap.size w1 W → JBox W b A L c wt from fun W k => J0.out.below k J0.out.lt)
  clear hb2 J0
  go_wp2_with fail
  go_loopw [7, 8] (fun mv iv wr => ∃ (x : Nat) (M : Int), x ≤ L ∧ iv = .int .i64 (x : Int) ∧ mv = .int .i64 M ∧ Hid (IsMaxP (fun z => z < x) (fun z => via l v z y) M) ∧ (0 ≤ M ∧ M ≤ 1000001) ∧ Hid (Below w1.heap.size w1 wr)) (fun _ iv _ => L - (intOf iv).toNat)
  case atStart => exact ⟨0, 0, by omega, rfl, rfl, Lib.hid (IsMaxP.start _), by omega, Lib.hid (Below.refl _ _)⟩
  case round =>
    obtain ⟨x, M, hx, rfl, rfl, HMX, hMb, B⟩ := hrel
    obtain ⟨j0, j1, jl⟩ := HJ.out _ B.out
    have BW := Lib.hid (B0.out.trans (B.out.mono B0.out.size))
    by_cases hlt : x < L
    · have hk1 := HK.out x hlt wr (H.out.below BW.out)
      have HK1 := Lib.hid hk1
      have hrc := rel_cases l x y
      have HVS := Lib.hid (fun (g : rel l x y ≠ 0) => via_str (v := v) g)
      have HVZ := Lib.hid (fun (g : rel l x y = 0) => via_zero (v := v) g)
      have hs01 : 0 ≤ str1 l x y ∧ str1 l x y ≤ 1 := by unfold str1; split <;> omega
      have HMORE := Lib.hid (fun (N : Int) (hN : N = if M < via l v x y then via l v x y else M) => HMX.out.more (q := fun z => z < x + 1) (y := x) (fun z => by show z < x + 1 ↔ z < x ∨ z = x; omega) hN)
      obtain ⟨r, hr⟩ : ∃ r, r = rel l x y := ⟨_, rfl⟩
      rw [← hr] at HK1 HVS HVZ hrc
      have HS1 := Lib.hid (fun (W : World) (k : Below w1.heap.size w1 W) => HS.out x hlt W (H.out.below (B0.out.trans (k.mono B0.out.size))))
      obtain ⟨s1, hs⟩ : ∃ s, s = str1 l x y := ⟨_, rfl⟩
      simp only [← hs] at HVS HS1 hs01
      have HVR := Lib.hid (fun (W : World) (k : Below w1.heap.size w1 W) => (show Row .i64 W W.heap.size V v from HV.out.below (B0.out.trans (k.mono B0.out.size))))
      clear hk1 hr hs HMX
      go_wp2_with fail
      refine HK1.out.mono ?_
      rintro e w2 ⟨rfl, B2⟩
      have HB2 := Lib.hid (B.out.trans (B2.mono B.out.size))
      clear B2 j0 j1 jl
      by_cases h0 : r = 0
      · have HN := Lib.hid (HMORE.out M (by rw [HVZ.out h0, if_neg (by omega)]))
        subst h0
        clear HMORE HVS HVZ hrc
        go_wp2_with fail
        go_roundw
        case rel => exact ⟨x + 1, M, by omega, by go_num, rfl, HN, hMb, HB2⟩
        case measure => simp [intOf]; omega
      · have hrp : 0 < r := by rcases hrc with e | e | e <;> omega
        obtain ⟨vad, rfl, _, cv0⟩ := HVR.out w2 HB2.out x (by rw [HVL.out]; exact hlt)
        have hzb := HBD.out x hlt
        obtain ⟨z, hz⟩ : ∃ z, z = v.getD x 0 := ⟨_, rfl⟩
        obtain ⟨M2, hM2⟩ : ∃ t, t = max2 M (z + s1) := ⟨_, rfl⟩
        have hmx : ∀ w ts t, (Builtin.max_ ts t #[.int .i64 M, .int .i64 (z + s1)]).run Try.prog w = .ok (.int .i64 M2) w := fun w ts t => by rw [run_max2, hM2]
        have HN := Lib.hid (HMORE.out M2 (by rw [hM2, HVS.out h0, hz]; rfl))
        have HMXE := Lib.hid (show max M (z + s1) = M2 by rw [hM2]; unfold max2; split <;> omega)
        have HMXF := Lib.hid (show (if M < z + s1 then z + s1 else M) = M2 by rw [hM2]; rfl)
        have hM2b : 0 ≤ M2 ∧ M2 ≤ 1000001 := by
          rw [hM2]; unfold max2; rw [← hz] at hzb; split <;> omega
        rw [← hz] at cv0 hzb
        obtain ⟨j0, j1, jl⟩ := HJ.out _ HB2.out
        have HVW := Lib.hid (fun (W : World) (k : Below w1.heap.size w1 W) => (show W.cell? (vad.add x) = some (.int .i64 z) from by
          obtain ⟨_, e', _, cc⟩ := HVR.out W k x (by rw [HVL.out]; exact hlt)
          obtain rfl : vad = _ := by injection e'
          rw [cc, hz]))
        have HBD2 := Lib.hid HB2.out.drew
        have hx1 : (x : Int) < (L : Int) := by omega
        clear hM2 hz HMORE HVS HVZ hrc h0
        go_upto_region 6 with fail
        go_region_law (go_simp; go_at_call 29; refine (HS1.out w2.drew HBD2.out).mono ?_; rintro e w7 ⟨rfl, B7⟩; have B8 := Lib.hid (HBD2.out.trans (B7.mono HBD2.out.size)); have cv7 := HVW.out w7 B8.out)
        all_goals
          clear cv0 cv7 j0 j1 jl hmx
          go_wp2_with fail
          go_roundw
          case rel => exact ⟨x + 1, M2, by omega, by go_num, congrArg (Value.int .i64) (by first | exact HMXE.out | exact HMXF.out), HN, hM2b, B8⟩
          case measure => simp [intOf]; omega
    · obtain rfl : x = L := by omega
      have HF := Lib.hid (show IsMaxP (fun z => z < l.length) (fun z => via l v z y) M by rw [← HL.out]; exact HMX.out)
      clear HMX hlt
      go_wp2_with fail
      go_ret
      exact ⟨M, rfl, HF.out, BW.out⟩
/-- The levels, all of a lesser block finished, and the first y of this block. -/
structure RInv (l : List It) (b y : Nat) (zs : List Int) : Prop where
  len : zs.length = l.length
  fin : ∀ x, x < l.length → (blk l x < b ∨ (blk l x = b ∧ x < y)) → IsMaxP (fun z => z < l.length) (fun z => via l zs z x) (zs.getD x 0)
  rest : ∀ x, x < l.length → ¬ (blk l x < b ∨ (blk l x = b ∧ x < y)) → zs.getD x 0 = 0
  bd : ∀ x, x < l.length → 0 ≤ zs.getD x 0 ∧ zs.getD x 0 ≤ blk l x
theorem RInv.start {l : List It} (hb : BlkOk l) : RInv l 0 0 (List.replicate l.length 0) := by
  have e : ∀ y, (List.replicate l.length (0 : Int)).getD y 0 = 0 := fun y => by
    rw [List.getD_eq_getElem?_getD, List.getElem?_replicate]; split <;> rfl
  exact ⟨by simp, fun x hx h => by have := (hb x hx).1; omega, fun x _ _ => e x, fun x hx => by rw [e]; have := (hb x hx).1; omega⟩
theorem RInv.skip {l : List It} {b y : Nat} {zs : List Int} (h : RInv l b y zs) (hy : blk l y ≠ (b : Int)) : RInv l b (y + 1) zs := by
  have e : ∀ x, (blk l x < (b : Int) ∨ (blk l x = (b : Int) ∧ x < y + 1)) ↔ (blk l x < (b : Int) ∨ (blk l x = (b : Int) ∧ x < y)) := fun x => by
    constructor
    · rintro (g | ⟨g1, g2⟩)
      · exact Or.inl g
      · by_cases e : x = y
        · exact absurd (e ▸ g1) hy
        · exact Or.inr ⟨g1, by omega⟩
    · rintro (g | ⟨g1, g2⟩)
      · exact Or.inl g
      · exact Or.inr ⟨g1, by omega⟩
  exact ⟨h.len, fun x hx g => h.fin x hx ((e x).1 g), fun x hx g => h.rest x hx (fun k => g ((e x).2 k)), h.bd⟩
theorem RInv.nextB {l : List It} {b : Nat} {zs : List Int} (h : RInv l b l.length zs) : RInv l (b + 1) 0 zs := by
  have e : ∀ x, x < l.length → ((blk l x < ((b + 1 : Nat) : Int) ∨ (blk l x = ((b + 1 : Nat) : Int) ∧ x < 0)) ↔ (blk l x < (b : Int) ∨ (blk l x = (b : Int) ∧ x < l.length))) := fun x hx => by omega
  exact ⟨h.len, fun x hx g => h.fin x hx ((e x hx).1 g), fun x hx g => h.rest x hx (fun k => g ((e x hx).2 k)), h.bd⟩
theorem RInv.set {l : List It} {b y : Nat} {zs : List Int} {M : Int} (h : RInv l b y zs) (hb : BlkOk l) (hyl : y < l.length) (hy : blk l y = (b : Int)) (hM : IsMaxP (fun z => z < l.length) (fun z => via l zs z y) M) : RInv l b (y + 1) (zs.set y M) := by
  have hyz : y < zs.length := by rw [h.len]; exact hyl
  have same : ∀ x z, blk l x ≤ b → via l (zs.set y M) z x = via l zs z x := fun x z hx => via_same fun g => by
    refine getD_set_other (fun e => ?_) M
    have h1 := (rel_pos g).2
    rw [← e, hy] at h1
    omega
  refine ⟨by rw [List.length_set]; exact h.len, fun x hx g => ?_, fun x hx g => ?_, fun x hx => ?_⟩
  · have hxb : blk l x ≤ (b : Int) := by omega
    by_cases e : y = x
    · subst e
      rw [getD_set_same hyz]
      exact hM.congr (fun _ => Iff.rfl) (fun z _ => (same y z hxb).symm)
    · rw [getD_set_other e]
      exact (h.fin x hx (by rcases g with g | ⟨g1, g2⟩; exact Or.inl g; exact Or.inr ⟨g1, by omega⟩)).congr (fun _ => Iff.rfl) (fun z _ => (same x z hxb).symm)
  · have e : y ≠ x := fun e => g (Or.inr ⟨by rw [← e]; exact hy, by omega⟩)
    rw [getD_set_other e]
    exact h.rest x hx (fun k => g (by rcases k with k | ⟨k1, k2⟩; exact Or.inl k; exact Or.inr ⟨k1, by omega⟩))
  · by_cases e : y = x
    · subst e
      rw [getD_set_same hyz]
      refine ⟨hM.pos, ?_⟩
      have hb0 := (hb _ hyl).1
      rcases hM.hit with e | ⟨z, hz, e⟩
      · omega
      · have e' : via l zs z y = M := e
        by_cases gr : rel l z y = 0
        · rw [via_zero gr] at e'; omega
        · rw [via_pos gr] at e'
          have h1 := (rel_pos gr).2
          have h2 := (h.bd _ hz).2
          rcases rel_cases l z y with cc | cc | cc <;> omega
    · rw [getD_set_other e]; exact h.bd x hx
theorem RInv.done {l : List It} {zs : List Int} (h : RInv l 32 0 zs) (hb : BlkOk l) : Lev l zs :=
  ⟨h.len, fun y hy => h.fin y hy (Or.inl (by have := (hb y hy).2; omega))⟩
end Go.Proofs.Ytlagadbkencpbaa

namespace Go.Proofs.Ytlagadbkencpbaa
open Go.RowKit Go.Lib

/-- The greatest code up to now. -/
structure MxI (zs : List Int) (M : Int) : Prop where
  le : ∀ x, zs.getD x 0 ≤ M
  hit : M = 0 ∨ ∃ x, x < zs.length ∧ zs.getD x 0 = M
  bd : 0 ≤ M ∧ M ≤ 4095
theorem MxI.start (n : Nat) : MxI (List.replicate n 0) 0 := ⟨fun x => by rw [getD_zeros]; exact Int.le_refl _, Or.inl rfl, by omega⟩
theorem MxI.set {zs : List Int} {M K : Int} {y : Nat} (h : MxI zs M) (hy : y < zs.length) (h0 : zs.getD y 0 = 0) (hK : 0 ≤ K ∧ K ≤ 4095) : MxI (zs.set y K) (max2 M K) := by
  have hb := h.bd
  have hm : max2 M K = if M < K then K else M := rfl
  refine ⟨fun x => ?_, ?_, ?_⟩
  · have := h.le x
    rw [getDset hy, hm]
    split <;> split <;> omega
  · rw [hm]
    by_cases g : M < K
    · rw [if_pos g]
      exact Or.inr ⟨y, by rw [List.length_set]; exact hy, by rw [getDset hy, if_pos rfl]⟩
    · rw [if_neg g]
      rcases h.hit with e | ⟨x, hx, e⟩
      · exact Or.inl e
      · by_cases exy : y = x
        · subst exy; left; omega
        · exact Or.inr ⟨x, by rw [List.length_set]; exact hx, by rw [getDset hy, if_neg exy]; exact e⟩
  · rw [hm]; split <;> omega
theorem MxI.steps {zs : List Int} {M : Int} (h : MxI zs M) (h0 : ∀ x, 0 ≤ zs.getD x 0) : StepsOf zs (ln M.toNat : Int) := by
  rcases Nat.eq_zero_or_pos zs.length with e | e
  · have hz : zs = [] := List.length_eq_zero_iff.1 e
    left
    refine ⟨hz, ?_⟩
    rcases h.hit with g | ⟨x, hx, _⟩
    · rw [g]; rfl
    · omega
  · right
    refine ⟨M, ⟨fun x hx => h.le x, ?_⟩, rfl⟩
    rcases h.hit with g | g
    · refine ⟨0, e, ?_⟩
      have := h.le 0
      have := h0 0
      omega
    · exact g
/-- What is found ahead of the item y of the block b. -/
abbrev VSol (l : List It) (wt : Int) (b y : Nat) (zs : List Int) : Prop := ∃ bs, PSol l wt (fun x => x < l.length ∧ Vis l b y x) bs zs
theorem VSol.start {l : List It} (wt : Int) (hb : BlkOk l) : VSol l wt 0 0 (List.replicate l.length 0) :=
  ⟨_, (PSol.start l wt).congr fun x => ⟨fun h => h.elim, fun ⟨hx, h⟩ => by have := (hb x hx).1; rcases h with h | h <;> omega⟩⟩
theorem VSol.skip {l : List It} {wt : Int} {b y : Nat} {zs : List Int} (h : VSol l wt b y zs) (hy : blk l y ≠ (b : Int)) : VSol l wt b (y + 1) zs := by
  obtain ⟨bs, h⟩ := h
  refine ⟨bs, h.congr fun x => ⟨fun ⟨hx, k⟩ => ⟨hx, ?_⟩, fun ⟨hx, k⟩ => ⟨hx, ?_⟩⟩⟩
  · rcases k with k | ⟨k1, k2⟩
    · exact Or.inl k
    · exact Or.inr ⟨k1, by omega⟩
  · rcases k with k | ⟨k1, k2⟩
    · exact Or.inl k
    · rcases Nat.eq_or_lt_of_le (Nat.le_of_lt_succ k2) with e | e
      · subst e; exact absurd k1 hy
      · exact Or.inr ⟨k1, e⟩
theorem VSol.nextB {l : List It} {wt : Int} {b : Nat} {zs : List Int} (h : VSol l wt b l.length zs) : VSol l wt (b + 1) 0 zs := by
  obtain ⟨bs, h⟩ := h
  refine ⟨bs, h.congr fun x => ⟨fun ⟨hx, k⟩ => ⟨hx, ?_⟩, fun ⟨hx, k⟩ => ⟨hx, ?_⟩⟩⟩
  · rcases k with k | ⟨k1, k2⟩
    · exact Or.inl (by omega)
    · exact Or.inl (by omega)
  · rcases k with k | ⟨_, k2⟩
    · rcases Int.lt_or_le (blk l x) b with g | g
      · exact Or.inl g
      · exact Or.inr ⟨by omega, hx⟩
    · omega
theorem VSol.zero {l : List It} {wt : Int} {b y : Nat} {zs : List Int} (h : VSol l wt b y zs) (hy : blk l y = (b : Int)) : zs.getD y 0 = 0 := by
  obtain ⟨bs, h⟩ := h
  exact (h.rest y (fun ⟨_, k⟩ => by rcases k with k | k <;> omega)).1
theorem VSol.len {l : List It} {wt : Int} {b y : Nat} {zs : List Int} (h : VSol l wt b y zs) : zs.length = l.length := by
  obtain ⟨bs, h⟩ := h
  exact h.vlen
theorem VSol.bd {l : List It} {wt : Int} {b y : Nat} {zs : List Int} (hf : FormOk l wt) (h : VSol l wt b y zs) (x : Nat) : 0 ≤ zs.getD x 0 ∧ zs.getD x 0 ≤ 4095 := by
  obtain ⟨bs, h⟩ := h
  exact (h.bound hf x).1
theorem VSol.set {l : List It} {wt : Int} {b y : Nat} {zs : List Int} {M k : Int} (hf : FormOk l wt) (h : VSol l wt b y zs) (hyl : y < l.length) (hy : blk l y = (b : Int)) (hM : IsMaxP (fun z => z < l.length) (fun z => via l zs z y) M) (hk : nextZ M (rnd l y) wt = (k, 0)) : VSol l wt b (y + 1) (zs.set y k) := by
  obtain ⟨bs, h⟩ := h
  have hn : ¬ (y < l.length ∧ Vis l b y y) := fun ⟨_, g⟩ => by rcases g with g | g <;> omega
  have hd : ∀ x, x < l.length → rel l x y ≠ 0 → (x < l.length ∧ Vis l b y x) := fun x hx g => ⟨hx, Or.inl (by have := (rel_pos g).2; omega)⟩
  refine ⟨_, (h.step hyl hn hd hM hk).congr fun x => ⟨fun g => ?_, fun ⟨hx, g⟩ => ?_⟩⟩
  · rcases g with ⟨hx, g⟩ | rfl
    · refine ⟨hx, ?_⟩
      rcases g with g | ⟨g1, g2⟩
      · exact Or.inl g
      · exact Or.inr ⟨g1, by omega⟩
    · exact ⟨hyl, Or.inr ⟨hy, by omega⟩⟩
  · by_cases e : x = y
    · exact Or.inr e
    · left
      refine ⟨hx, ?_⟩
      rcases g with g | ⟨g1, g2⟩
      · exact Or.inl g
      · exact Or.inr ⟨g1, by omega⟩
theorem VSol.fail {l : List It} {wt : Int} {b y : Nat} {zs : List Int} {M : Int} (hf : FormOk l wt) (h : VSol l wt b y zs) (hyl : y < l.length) (hy : blk l y = (b : Int)) (hM : IsMaxP (fun z => z < l.length) (fun z => via l zs z y) M) (hk : (nextZ M (rnd l y) wt).2 ≠ 0) : ∀ bs' v', ¬ Sol l wt bs' v' := by
  obtain ⟨bs, h⟩ := h
  exact h.fail hf.blk hyl (fun x hx g => ⟨hx, Or.inl (by have := (rel_pos g).2; omega)⟩) hM hk
theorem VSol.done {l : List It} {wt : Int} {zs : List Int} (hb : BlkOk l) (h : VSol l wt 32 0 zs) : ∃ bs, Sol l wt bs zs := by
  obtain ⟨bs, h⟩ := h
  exact ⟨bs, h.congr fun x => ⟨fun g => g.1, fun hx => ⟨hx, Or.inl (by have := (hb x hx).2; show blk l x < 32; omega)⟩⟩⟩
theorem rl_row {T : TypeId} {w : World} {base n c : Nat} {a : Addr} {zs : List Int} (h : Own .i64 T w base (.slice (some a) n c) zs) : Row .i64 w w.heap.size (some a) zs := by
  obtain ⟨A', c', e1, R', _⟩ := h.slice
  injection e1 with e1
  subst e1
  exact R'
theorem rl_bd {l : List It} {zs : List Int} {y : Nat} {M : Int} (h : IsMaxP (fun x => x < l.length) (fun x => via l zs x y) M) (hb : ∀ x, 0 ≤ zs.getD x 0 ∧ zs.getD x 0 ≤ 4095) : 0 ≤ M ∧ M ≤ 4096 := by
  refine ⟨h.pos, ?_⟩
  rcases h.hit with e | ⟨x, hx, e⟩
  · omega
  · have e' : via l zs x y = M := e
    by_cases g : rel l x y = 0
    · rw [via_zero g] at e'; omega
    · rw [via_str g] at e'
      have h1 := hb x
      have h2 : str1 l x y ≤ 1 := by unfold str1; split <;> omega
      omega
theorem next_or2 {n r wt k e : Int} (hn : 0 ≤ n) (hr : 0 ≤ r ∧ r ≤ 12) (hw : 0 ≤ wt ∧ wt ≤ 12) (h : nextZ n r wt = (k, e)) : (e = 0 ∧ 0 ≤ k ∧ k ≤ 4095) ∨ (e = 15 ∧ (nextZ n r wt).2 ≠ 0) := by
  by_cases h0 : (nextZ n r wt).2 = 0
  · rw [h] at h0
    have h0' : e = 0 := h0
    subst h0'
    have := next_bd hn hr hw h
    exact Or.inl ⟨rfl, by omega, by omega⟩
  · have h1 := next_err hn hr hw h0
    refine Or.inr ⟨?_, h0⟩
    rw [h] at h1
    injection h1
set_option maxRecDepth 100000 in
set_option maxHeartbeats 3200000 in
theorem rleast_any (l : List It) (A : Option Addr) (c L : Nat) (wt : Int) (hL : L = l.length) (w : World) (h : IRow w A l) :
    Calls Try.prog 38 #[jv A L c wt] w (LeastPost l wt w) := by
  have H := Lib.hid h
  have HL := Lib.hid hL
  have HVL := Lib.hid (fun (W : World) (k : IRow W A l) => rvalid_any l A c wt W k)
  rw [← hL] at HVL
  have s1 : (w.alloc (.cells #[.slice A L c, .int .i64 wt] 39)).heap.size = w.heap.size + 1 := by simp
  have J0 := JBox.new (w := w) (A := A) (n := L) (c := c) (wt := wt) w.heap.size rfl
  have B0 := (Below.refl w.heap.size w).alloc (Nat.le_refl _) (.cells #[.slice A L c, .int .i64 wt] 39)
  have X0 := PBox.new (w := w.alloc (.cells #[.slice A L c, .int .i64 wt] 39)) (st := 0) (A := none) (n := 0) (c := 0) _ rfl
  have b1 := (Below.refl _ (w.alloc (.cells #[.slice A L c, .int .i64 wt] 39))).alloc (Nat.le_refl _) (.cells #[.int .i64 0, .slice none 0 0] 24)
  have HJ := Lib.hid (J0.below b1 J0.lt)
  have HBW := Lib.hid (B0.trans (b1.mono B0.size))
  rw [s1] at X0
  have HX := Lib.hid X0
  obtain ⟨b, hbq⟩ : ∃ b, b = w.heap.size := ⟨_, rfl⟩
  have HBQ := Lib.hid hbq
  clear h hL s1 J0 B0 X0 b1
  go_enter Try.func38, Try.ntmps38
  go_upto_region 1 with fail
  rw [← hbq] at HJ HX ⊢
  generalize (w.alloc (.cells #[.slice A L c, .int .i64 wt] 39)).alloc (.cells #[.int .i64 0, .slice none 0 0] 24) = w1 at *
  clear hbq
  obtain ⟨j0, j1, jl⟩ := HJ.out
  go_wp2_with fail
  refine (HVL.out w1 (H.out.below HBW.out)).mono ?_
  rintro e w2 ⟨rfl, B2⟩
  have HX2 := Lib.hid (HX.out.below B2 HX.out.lt)
  have HJ2 := Lib.hid (HJ.out.below B2 HJ.out.lt)
  have HB2 := Lib.hid (HBW.out.trans (B2.mono HBW.out.size))
  have HBL := Lib.hid (show b + 1 < w2.heap.size from HX2.out.lt)
  clear j0 j1 jl HX HJ B2 HBW
  have HFIN := Lib.hid (show ∀ (st er' : Int) (A' : Option Addr) (n' c' : Nat) (v' : List Int) (W : World), Below w2.heap.size w2 W → Own .i64 3 W w.heap.size (.slice A' n' c') v' → (∀ g, (Value.slice A' n' c').ownBlock = some g → g ≠ b + 1) → LeastR l wt st v' er' →
      LeastPost l wt w (.returned (.tuple #[pv st A' n' c', .int .i64 er'])) ((W.setCell ⟨b + 1, 0, none⟩ (.int .i64 st)).setCell ⟨b + 1, 1, none⟩ (.slice A' n' c')) from fun st er' A' n' c' v' W k o hg r => by
    refine ⟨st, A', n', c', er', v', rfl, (o.setN (p := ⟨b + 1, 0, none⟩) hg _).setN (p := ⟨b + 1, 1, none⟩) hg _, ?_, r⟩
    have := HB2.out.trans (k.mono HB2.out.size)
    exact (this.setCell (p := ⟨b + 1, 0, none⟩) (by have := HBQ.out; show _ ≤ b + 1; omega) _).setCell (p := ⟨b + 1, 1, none⟩) (by have := HBQ.out; show _ ≤ b + 1; omega) _)
  by_cases he : validR l wt = 0
  · have HE := Lib.hid he
    have HFO := Lib.hid (formOk_of he)
    obtain ⟨p1, -, -⟩ := valid_ok he
    rw [he]
    rw [← HL.out] at p1
    have hmk := make_ints w2 L (by omega)
    have O0 := Lib.hid (Own.laid (k := .i64) (T := 3) w2 w2.heap.size (Nat.le_refl _) (List.replicate L 0) L (by simp) (by omega))
    have B4 := Lib.hid ((Below.refl w2.heap.size w2).alloc (Nat.le_refl _) (.cells ((List.replicate L 0).map (Value.int .i64)).toArray 3))
    have I0 := Lib.hid (VSol.start wt HFO.out.blk)
    have M0 := Lib.hid (MxI.start L)
    rw [← HL.out] at I0
    obtain ⟨g, hg⟩ : ∃ g, g = w2.heap.size := ⟨_, rfl⟩
    have HG := Lib.hid hg
    rw [← hg] at O0 hmk B4
    generalize w2.alloc (.cells ((List.replicate L 0).map (Value.int .i64)).toArray 3) = w4 at *
    generalize List.replicate L (0 : Int) = z0 at *
    have HJ := Lib.hid (show ∀ W, Below g w2 W → JBox W b A L c wt from fun W k => HJ2.out.below k (by rw [HG.out]; exact HJ2.out.lt))
    have HX := Lib.hid (show ∀ W, Below g w2 W → PBox W (b + 1) 0 none 0 0 from fun W k => HX2.out.below k (by rw [HG.out]; exact HX2.out.lt))
    have HI := Lib.hid (show ∀ W, Below g w2 W → IRow W A l from fun W k => H.out.below (HB2.out.trans ((show Below w2.heap.size w2 W by rw [← HG.out]; exact k).mono HB2.out.size)))
    have HPB := Lib.hid (show ∀ W, Below g w2 W → Below w2.heap.size w2 W from fun W k => by rw [← HG.out]; exact k)
    obtain ⟨j0, j1, jl⟩ := HJ2.out
    clear hg he
    go_wp2_with fail
    clear j0 j1 jl hmk HJ2 HX2
    go_loopw [6, 7] (fun mv iv wr => ∃ (bb : Nat) (M : Int) (zs : List Int), bb ≤ 32 ∧ iv = .int .i64 (bb : Int) ∧ mv = .int .i64 M ∧ Hid (MxI zs M) ∧ Hid (Own .i64 3 wr g (.slice (some ⟨g, 0, none⟩) L L) zs) ∧ Hid (VSol l wt bb 0 zs) ∧ Hid (Below g w2 wr)) (fun _ iv _ => 32 - (intOf iv).toNat)
    case atStart => exact ⟨0, 0, z0, by omega, rfl, rfl, M0, O0, I0, B4⟩
    case round =>
      clear O0 I0 B4 M0
      obtain ⟨bb, M1, zs, hbb, rfl, rfl, MX, O, I, B⟩ := hrel
      by_cases hlt : bb < 32
      · have hb32 : (bb : Int) < 32 := by omega
        have hbd : decide ((bb : Int) < 32) = true := decide_eq_true hb32
        go_wp2_with fail
        go_loopw [6, 8] (fun mv iv wi => ∃ (y : Nat) (M : Int) (zi : List Int), y ≤ L ∧ iv = .int .i64 (y : Int) ∧ mv = .int .i64 M ∧ Hid (MxI zi M) ∧ Hid (Own .i64 3 wi g (.slice (some ⟨g, 0, none⟩) L L) zi) ∧ Hid (VSol l wt bb y zi) ∧ Hid (Below g w2 wi)) (fun _ iv _ => L - (intOf iv).toNat)
        case atStart => exact ⟨0, M1, zs, by omega, rfl, rfl, MX, O, I, B⟩
        case round =>
          clear O I B MX
          obtain ⟨y, MM, zi, hy, rfl, rfl, MX, O, I, B⟩ := hrel
          by_cases hly : y < L
          · have HYL := Lib.hid (show y < l.length by rw [← HL.out]; exact hly)
            obtain ⟨j0, j1, jl⟩ := HJ.out _ B.out
            obtain ⟨aA, rfl, CE⟩ := (HI.out _ B.out).at_ y HYL.out
            obtain ⟨-, r1, r2, -⟩ := CE.spelt
            replace r2 : wr.cell? ⟨(aA.add (y * 4)).block, (aA.add (y * 4)).off + 2, none⟩ = some (.int .i64 (rnd l y)) := r2
            replace r1 : wr.cell? ⟨(aA.add (y * 4)).block, (aA.add (y * 4)).off + 1, none⟩ = some (.int .i64 (blk l y)) := r1
            have hyi : (y : Int) < (L : Int) := by omega
            have HRS := Lib.hid (show zi.length = L by rw [I.out.len, HL.out])
            clear CE
            by_cases e : blk l y = (bb : Int)
            · have HEB := Lib.hid e
              rw [e] at r1
              have hbe : ((bb : Int) != (bb : Int)) = false := by simp
              have HPS := Lib.hid (fun (X : World) (k : Below g w2 X) => (show X.cell? ⟨b, 0, none⟩ = some (.slice (some aA) L c) ∧ X.cell? ⟨b, 1, none⟩ = some (.int .i64 wt) ∧ X.cell? ⟨(aA.add (y * 4)).block, (aA.add (y * 4)).off + 2, none⟩ = some (.int .i64 (rnd l y)) from by
                obtain ⟨aB, e', CE⟩ := (HI.out X k).at_ y HYL.out
                obtain rfl : aA = aB := by injection e'
                obtain ⟨-, -, r2, -⟩ := CE.spelt
                exact ⟨(HJ.out X k).c0, (HJ.out X k).c1, r2⟩))
              have HBASE := Lib.hid (fun (W : World) (k : Below g w2 W) (o : Own .i64 3 W g (.slice (some ⟨g, 0, none⟩) L L) zi) => base_any l (some aA) (some ⟨g, 0, none⟩) c L wt zi y HYL.out W (HI.out W k) (rl_row o) (by rw [HRS.out, HL.out]) (fun k _ => by have := I.out.bd HFO.out k; omega))
              rw [← HL.out] at HBASE
              obtain ⟨rr, hrr⟩ : ∃ z, z = rnd l y := ⟨_, rfl⟩
              have HRR := Lib.hid hrr
              rw [← hrr] at r2 HPS
              clear e hrr
              go_upto_region 13 with fail
              clear r1 r2 j0 j1 jl hbe hb32 hbd
              obtain ⟨q0, e0⟩ : ∃ x, x = wr.drew := ⟨_, rfl⟩
              have K0 := Lib.hid (show Below g w2 q0 from by rw [e0]; exact B.out.drew)
              have O0 := Lib.hid (show Own .i64 3 q0 g (.slice (some ⟨g, 0, none⟩) L L) zi from by rw [e0]; exact O.out.drewN 1)
              have F0 := HPS.out q0 K0.out
              have HE0 := Lib.hid e0
              clear e0 B O
              refine AnyT.begin_at tlN (fun X => X.cell? ⟨b, 0, none⟩ = some (.slice (some aA) L c) ∧ X.cell? ⟨b, 1, none⟩ = some (.int .i64 wt) ∧ X.cell? ⟨(aA.add (y * 4)).block, (aA.add (y * 4)).off + 2, none⟩ = some (.int .i64 rr)) (by kernel_rfl) HE0.out F0 ?_
              clear F0 HE0
              intro F0
-- TAKES G1
              refine AnyT.takeD (i := 0) (d := some 40) (v := jv (some aA) L c wt) rfl rfl (by kernel_rfl) (by kernel_rfl) (by kernel_rfl) (by kernel_rfl) (fun _ _ _ h => h) (Or.inl ⟨by rfl, fun wz hz => by obtain ⟨z0, z1, z2⟩ := hz; go_simp⟩) F0 ?_
              simp only [Act.put, List.setIfInBounds_toArray, List.set_cons_zero, List.set_cons_succ]
              refine AnyT.takeD (i := 1) (d := some 41) (v := .slice (some ⟨g, 0, none⟩) L L) rfl rfl (by kernel_rfl) (by kernel_rfl) (by kernel_rfl) (by kernel_rfl) (fun _ _ _ h => h) (Or.inl ⟨by rfl, fun wz _ => by go_simp⟩) F0 ?_
              simp only [Act.put, List.setIfInBounds_toArray, List.set_cons_zero, List.set_cons_succ]
              refine AnyT.takeD (i := 2) (d := some 42) (v := .int .i64 (y : Int)) rfl rfl (by kernel_rfl) (by kernel_rfl) (by kernel_rfl) (by kernel_rfl) (fun _ _ _ h => h) (Or.inl ⟨by rfl, fun wz _ => by go_simp⟩) F0 ?_
              simp only [Act.put, List.setIfInBounds_toArray, List.set_cons_zero, List.set_cons_succ]
              refine AnyT.takeD (i := 4) (d := some 44) (v := .pointer (some ⟨b, 0, none⟩)) rfl rfl (by kernel_rfl) (by kernel_rfl) (by kernel_rfl) (by kernel_rfl) (fun _ _ _ h => h) (Or.inl ⟨by rfl, fun wz _ => by go_simp⟩) F0 ?_
              simp only [Act.put, List.setIfInBounds_toArray, List.set_cons_zero, List.set_cons_succ]
              refine AnyT.takeD (i := 5) (d := some 45) (v := .slice (some aA) L c) rfl rfl (by kernel_rfl) (by kernel_rfl) (by kernel_rfl) (by kernel_rfl) (fun _ _ _ h => h) (Or.inl ⟨by rfl, fun wz hz => by obtain ⟨z0, z1, z2⟩ := hz; go_simp⟩) F0 ?_
              simp only [Act.put, List.setIfInBounds_toArray, List.set_cons_zero, List.set_cons_succ]
              refine AnyT.takeD (i := 6) (d := some 46) (v := .int .i64 (y : Int)) rfl rfl (by kernel_rfl) (by kernel_rfl) (by kernel_rfl) (by kernel_rfl) (fun _ _ _ h => h) (Or.inl ⟨by rfl, fun wz _ => by go_simp⟩) F0 ?_
              simp only [Act.put, List.setIfInBounds_toArray, List.set_cons_zero, List.set_cons_succ]
              refine AnyT.takeD (i := 7) (d := some 47) (v := .pointer (some (aA.add (y * 4)))) rfl rfl (by kernel_rfl) (by kernel_rfl) (by kernel_rfl) (by kernel_rfl) (fun _ _ _ h => h) (Or.inl ⟨by rfl, fun wz _ => by go_simp⟩) F0 ?_
              simp only [Act.put, List.setIfInBounds_toArray, List.set_cons_zero, List.set_cons_succ]
              refine AnyT.takeD (i := 8) (d := some 48) (v := .pointer (some ⟨(aA.add (y * 4)).block, (aA.add (y * 4)).off + 2, none⟩)) rfl rfl (by kernel_rfl) (by kernel_rfl) (by kernel_rfl) (by kernel_rfl) (fun _ _ _ h => h) (Or.inl ⟨by rfl, fun wz _ => by go_simp⟩) F0 ?_
              simp only [Act.put, List.setIfInBounds_toArray, List.set_cons_zero, List.set_cons_succ]
              refine AnyT.takeD (i := 9) (d := some 49) (v := .int .i64 rr) rfl rfl (by kernel_rfl) (by kernel_rfl) (by kernel_rfl) (by kernel_rfl) (fun _ _ _ h => h) (Or.inl ⟨by rfl, fun wz hz => by obtain ⟨z0, z1, z2⟩ := hz; go_simp⟩) F0 ?_
              simp only [Act.put, List.setIfInBounds_toArray, List.set_cons_zero, List.set_cons_succ]
              refine AnyT.takeD (i := 10) (d := some 50) (v := .pointer (some ⟨b, 1, none⟩)) rfl rfl (by kernel_rfl) (by kernel_rfl) (by kernel_rfl) (by kernel_rfl) (fun _ _ _ h => h) (Or.inl ⟨by rfl, fun wz _ => by go_simp⟩) F0 ?_
              simp only [Act.put, List.setIfInBounds_toArray, List.set_cons_zero, List.set_cons_succ]
              refine AnyT.takeD (i := 11) (d := some 51) (v := .int .i64 wt) rfl rfl (by kernel_rfl) (by kernel_rfl) (by kernel_rfl) (by kernel_rfl) (fun _ _ _ h => h) (Or.inl ⟨by rfl, fun wz hz => by obtain ⟨z0, z1, z2⟩ := hz; go_simp⟩) F0 ?_
              simp only [Act.put, List.setIfInBounds_toArray, List.set_cons_zero, List.set_cons_succ]
              -- TAKEN G1
              refine AnyT.branch (rs := [3]) (by kernel_rfl) (by simp) ?_
              refine all_cons (?_) all_nil
              refine AnyT.enter (i := 3) (d := some 43) (f := 64) (args := #[jv (some aA) L c wt, .slice (some ⟨g, 0, none⟩) L L, .int .i64 (y : Int)]) rfl rfl rfl (by go_simp) (HBASE.out q0 K0.out O0.out) ?_
              rintro e q1 ⟨M, rfl, hM, B1⟩
              have hMb := rl_bd hM (I.out.bd HFO.out)
              have HM := Lib.hid hM
              have K1 := Lib.hid (K0.out.trans (B1.mono (Nat.le_of_lt (own_block O0.out (g := g) rfl).2)))
              have O1 := Lib.hid (O0.out.below B1)
              have F1 := HPS.out q1 K1.out
              refine ⟨_, rfl, fun _ => F1, ?_⟩
              clear F0 hM B1 K0 O0 HBASE
              simp only [Act.put, List.setIfInBounds_toArray, List.set_cons_zero, List.set_cons_succ]
              have hnx := rnext_any M rr wt q1 (by omega)
              obtain ⟨⟨K, er⟩, hz⟩ : ∃ t, t = nextZ M rr wt := ⟨_, rfl⟩
              rw [← hz] at hnx
              have HZ := Lib.hid hz
              have HNX := Lib.hid hnx
              clear hz hnx
              refine AnyT.branch (rs := [12]) (by kernel_rfl) (by simp) ?_
              refine all_cons (?_) all_nil
              refine AnyT.enter (i := 12) (d := some 52) (f := 63) (args := #[.int .i64 M, .int .i64 rr, .int .i64 wt]) rfl rfl rfl (by go_simp) HNX.out ?_
              rintro e q4 ⟨rfl, hq4⟩
              have BD4 : Below q1.heap.size q1 q4 := by obtain ⟨n, rfl⟩ := hq4; exact bdn (Below.refl _ _)
              have K4 := Lib.hid (K1.out.trans (BD4.mono (Nat.le_of_lt (own_block O1.out (g := g) rfl).2)))
              have O4 := Lib.hid (O1.out.below BD4)
              have F4 := HPS.out q4 K4.out
              refine ⟨_, rfl, fun _ => F4, ?_⟩
              clear F1 BD4 hq4 K1 O1 HNX
              simp only [Act.put, List.setIfInBounds_toArray, List.set_cons_zero, List.set_cons_succ]
-- TAKES G2
              refine AnyT.takeD (i := 13) (d := some 39) (v := R2 (K, er)) rfl rfl (by kernel_rfl) (by kernel_rfl) (by kernel_rfl) (by kernel_rfl) (fun _ _ _ h => h) (Or.inl ⟨by rfl, fun wz _ => by go_simp⟩) F4 ?_
              simp only [Act.put, List.setIfInBounds_toArray, List.set_cons_zero, List.set_cons_succ]
              refine AnyT.takeD (i := 14) (d := some 53) (v := .int .i64 K) rfl rfl (by kernel_rfl) (by kernel_rfl) (by kernel_rfl) (by kernel_rfl) (fun _ _ _ h => h) (Or.inl ⟨by rfl, fun wz _ => by go_simp⟩) F4 ?_
              simp only [Act.put, List.setIfInBounds_toArray, List.set_cons_zero, List.set_cons_succ]
              refine AnyT.takeD (i := 15) (d := some 54) (v := .int .i64 er) rfl rfl (by kernel_rfl) (by kernel_rfl) (by kernel_rfl) (by kernel_rfl) (fun _ _ _ h => h) (Or.inl ⟨by rfl, fun wz _ => by go_simp⟩) F4 ?_
              simp only [Act.put, List.setIfInBounds_toArray, List.set_cons_zero, List.set_cons_succ]
              refine AnyT.takeD (i := 16) (d := some 9) (v := .int .i64 K) rfl rfl (by kernel_rfl) (by kernel_rfl) (by kernel_rfl) (by kernel_rfl) (fun _ _ _ h => h) (Or.inl ⟨by rfl, fun wz _ => by go_simp⟩) F4 ?_
              simp only [Act.put, List.setIfInBounds_toArray, List.set_cons_zero, List.set_cons_succ]
              refine AnyT.takeD (i := 17) (d := some 10) (v := .int .i64 er) rfl rfl (by kernel_rfl) (by kernel_rfl) (by kernel_rfl) (by kernel_rfl) (fun _ _ _ h => h) (Or.inl ⟨by rfl, fun wz _ => by go_simp⟩) F4 ?_
              simp only [Act.put, List.setIfInBounds_toArray, List.set_cons_zero, List.set_cons_succ]
              -- TAKEN G2
              refine AnyT.done_ (by kernel_rfl) ?_ _
              clear F4 HPS
              have hcs := next_or2 hMb.1 (by rw [HRR.out]; exact HFO.out.rb y HYL.out) HFO.out.wb HZ.out.symm
              rcases hcs with ⟨rfl, hKb⟩ | ⟨rfl, hbad⟩
              · have I8 := Lib.hid (I.out.set HFO.out HYL.out HEB.out HM.out (by rw [← HRR.out]; exact HZ.out.symm))
                have MX8 := MX.out.set (y := y) (by rw [HRS.out]; exact hly) (I.out.zero HEB.out) hKb
                obtain ⟨m2, hm2⟩ : ∃ m, m = max2 MM K := ⟨_, rfl⟩
                rw [← hm2] at MX8
                have HMX8 := Lib.hid MX8
                have hmx : ∀ w ts t, (Builtin.max_ ts t #[.int .i64 MM, .int .i64 K]).run Try.prog w = .ok (.int .i64 m2) w := fun w ts t => by rw [run_max2, hm2]
                have dc := O4.out.cell HRS.out.symm y (by rw [HRS.out]; exact hly)
                have fz := O4.out.frozen HRS.out.symm y
                have B8 := Lib.hid (K4.out.setCell (p := ⟨g, y, none⟩) (Nat.le_refl g) (.int .i64 K))
                have O8 := Lib.hid (O4.out.store HRS.out.symm y K)
                clear K4 O4 HZ HM hm2 MX8 hMb hKb
                go_wp2_with fail
                go_roundw
                case rel => exact ⟨y + 1, m2, zi.set y K, by omega, by go_num, rfl, HMX8, O8, I8, B8⟩
                case measure => simp [intOf]; omega
              · have RR := Lib.hid (show LeastR l wt 0 [] 15 from Or.inr (Or.inl ⟨HE.out, rfl, rfl, rfl, I.out.fail HFO.out HYL.out HEB.out HM.out (by rw [← HRR.out]; exact hbad)⟩))
                obtain ⟨p0, p1, pf, pl⟩ := HX.out _ K4.out
                have pf0 := pf 0
                have pf1 := pf 1
                have PP0 := Lib.hid ((HX.out _ K4.out).put (st' := 0) (A' := none) (n' := 0) (c' := 0))
                clear pf HZ HM hbad hMb
                go_wp2_with fail
                refine bodyPost_ret (results_plan rfl _ _ (b + 1) 0 15 none 0 0 rfl rfl PP0.out.c0 PP0.out.c1) rfl ?_
                exact HFIN.out 0 15 none 0 0 [] _ (HPB.out _ K4.out) Own.nil (fun g h => (by cases h)) RR.out
            · have I8 := Lib.hid (I.out.skip e)
              have hbe : (blk l y != (bb : Int)) = true := by simpa using e
              generalize blk l y = bY at *
              clear e
              go_wp2_with fail
              go_roundw
              case rel => exact ⟨y + 1, MM, zi, by omega, by go_num, rfl, MX, O, I8, B⟩
              case measure => simp [intOf]; omega
          · obtain rfl : y = L := by omega
            have I8 := Lib.hid (show VSol l wt (bb + 1) 0 zi from VSol.nextB (by rw [← HL.out]; exact I.out))
            clear hly
            go_wp2_with fail
            go_roundw
            case rel => exact ⟨bb + 1, MM, zi, by omega, by go_num, rfl, MX, O, I8, B⟩
            case measure => simp [intOf]; omega
      · have hbe : bb = 32 := by omega
        have I8 := Lib.hid (show VSol l wt 32 0 zs from hbe ▸ I.out)
        have hb32 : ¬ (bb : Int) < 32 := by omega
        have hmb := MX.out.bd
        have HST := Lib.hid (MX.out.steps (fun x => (I8.out.bd HFO.out x).1))
        obtain ⟨mm, rfl⟩ := Int.eq_ofNat_of_zero_le hmb.1
        rw [Int.toNat_natCast] at HST
        have HLO := Lib.hid (fun W => long_any mm W (by omega))
        obtain ⟨p0, p1, pf, pl⟩ := HX.out _ B.out
        have pf0 := pf 0
        have pf1 := pf 1
        obtain ⟨lm, hlm⟩ : ∃ x, x = ln mm := ⟨_, rfl⟩
        rw [← hlm] at HST HLO
        have PP0 := Lib.hid ((HX.out _ B.out).put (st' := (lm : Int)) (A' := some ⟨g, 0, none⟩) (n' := L) (c' := L))
        have RR := Lib.hid (show LeastR l wt (lm : Int) zs 0 from Or.inr (Or.inr ⟨HE.out, rfl, I8.out.done HFO.out.blk, HST.out⟩))
        clear hbe pf hlm hmb hlt
        go_wp2_with fail
        refine (HLO.out _).mono ?_
        rintro e w5 ⟨rfl, hw5⟩
        subst hw5
        go_wp2_with fail
        refine bodyPost_ret (results_plan rfl _ _ (b + 1) (lm : Int) 0 (some ⟨g, 0, none⟩) L L rfl rfl PP0.out.c0 PP0.out.c1) rfl ?_
        refine HFIN.out (lm : Int) 0 (some ⟨g, 0, none⟩) L L zs _ (HPB.out _ B.out) (O.out.base (by rw [HG.out]; exact HB2.out.size)) (fun q h => ?_) RR.out
        have h1 := (own_block O.out h).1
        have h2 := HBL.out
        have h3 := HG.out
        omega
  · have hne : (validR l wt != 0) = true := bne_iff_ne.2 he
    have RR := Lib.hid (show LeastR l wt 0 [] (validR l wt) from Or.inl ⟨he, rfl, rfl, rfl⟩)
    obtain ⟨p0, p1, pf, pl⟩ := HX2.out
    have pf0 := pf 0
    have pf1 := pf 1
    have PP0 := Lib.hid (HX2.out.put (st' := 0) (A' := none) (n' := 0) (c' := 0))
    have BR := Lib.hid (Below.refl w2.heap.size w2)
    clear pf he
    generalize validR l wt = er at *
    go_wp2_with fail
    refine bodyPost_ret (results_plan rfl _ _ (b + 1) 0 er none 0 0 rfl rfl PP0.out.c0 PP0.out.c1) rfl ?_
    exact HFIN.out 0 er none 0 0 [] _ BR.out Own.nil (fun g h => (by cases h)) RR.out
end Go.Proofs.Ytlagadbkencpbaa

namespace Go.Proofs.Ytlagadbkencpbaa
open Go.RowKit Go.Lib

/-- What Back leaves. -/
def BkPost (l : List It) (v bs : List Int) (w : World) (e : Ending) (w' : World) : Prop :=
  ∃ u zs, e = .returned u ∧ Own .i64 3 w' w.heap.size u zs ∧ ((l.length = 0 ∧ zs = []) ∨ ∃ y c, IsTop v y ∧ IsBackB l v bs y c ∧ zs = toZ c) ∧ Below w.heap.size w w'
set_option maxRecDepth 100000 in
set_option maxHeartbeats 3200000 in
theorem back_any (l : List It) (A V : Option Addr) (c cv : Nat) (wt : Int) (v : List Int) (w : World) (h : IRow w A l) (hv : Row .i64 w w.heap.size V v) (hvl : v.length = l.length) (hvb : ∀ k, k < l.length → 0 ≤ v.getD k 0 ∧ v.getD k 0 ≤ 1000000) (bs : List Int) (hbs : ∀ y, y < l.length → IsMaxP (fun x => x < l.length) (fun x => via l v x y) (bs.getD y 0)) (hok : BlkOk l) :
    Calls Try.prog 65 #[jv A l.length c wt, .slice V l.length cv] w (BkPost l v bs w) := by
  have H := Lib.hid h
  have HV := Lib.hid hv
  have HBM := Lib.hid hbs
  have HOK := Lib.hid hok
  obtain ⟨L, hL⟩ : ∃ n, n = l.length := ⟨_, rfl⟩
  have HL := Lib.hid hL
  have HVL := Lib.hid hvl
  have HBD := Lib.hid hvb
  have hLm : l.length ≤ 9223372036854775807 := h.len
  have HBS := Lib.hid (fun (y : Nat) (hy : y < l.length) (W : World) (k : Below w.heap.size w W) => base_any l A V c cv wt v y hy W (h.below k) (hv.below k) hvl HBD.out)
  have HKD := Lib.hid (fun (x y : Nat) (hx : x < l.length) (hy : y < l.length) (W : World) (k : Below w.heap.size w W) => kind_any l A c wt x y hx hy W (h.below k))
  have HST := Lib.hid (fun (x y : Nat) (hx : x < l.length) (hy : y < l.length) (W : World) (k : Below w.heap.size w W) => strict_any l A c wt x y hx hy W (h.below k))
  rw [← hL] at HBS HKD HST HVL HBD hLm ⊢
  have B0 := Lib.hid ((Below.refl w.heap.size w).alloc (Nat.le_refl _) (.cells #[.slice A L c, .int .i64 wt] 39))
  have J0 := Lib.hid (JBox.new (w := w) (A := A) (n := L) (c := c) (wt := wt) w.heap.size rfl)
  obtain ⟨b, hb⟩ : ∃ b, b = w.heap.size := ⟨_, rfl⟩
  clear h hL hv hvl hvb hbs hok
  go_enter Try.func65, Try.ntmps65
  go_upto_region 1 with fail
  rw [← hb] at J0 ⊢
  generalize w.alloc (.cells #[.slice A L c, .int .i64 wt] 39) = w1 at *
  have HJ := Lib.hid (show ∀ W, Below w1.heap.size w1 W → JBox W b A L c wt from fun W k => J0.out.below k J0.out.lt)
  clear hb J0
  cases L with
  | zero =>
    go_wp2_with fail
    go_ret
    exact ⟨_, [], rfl, Own.nil, Or.inl ⟨HL.out.symm, rfl⟩, B0.out⟩
  | succ n =>
    have hn0 : ((n : Int) + 1 == 0) = false := by simpa using (by omega : ¬ (n : Int) + 1 = 0)
    go_wp2_with fail
    clear hn0
    go_loopw [5, 6] (fun yv iv wr => ∃ (k y : Nat), k ≤ n + 1 ∧ y < n + 1 ∧ iv = .int .i64 (k : Int) ∧ yv = .int .i64 (y : Int) ∧ Hid ((∀ x, x < k → v.getD x 0 ≤ v.getD y 0) ∧ ∀ x, x < y → v.getD x 0 < v.getD y 0) ∧ Hid (∃ q, wr = w1.drewN q)) (fun _ iv _ => n + 1 - (intOf iv).toNat)
    case atStart => exact ⟨0, 0, by omega, by omega, rfl, rfl, Lib.hid ⟨fun x hx => absurd hx (Nat.not_lt_zero _), fun x hx => absurd hx (Nat.not_lt_zero _)⟩, Lib.hid ⟨0, rfl⟩⟩
    case round =>
      obtain ⟨k, y, hk, hy, rfl, rfl, T, HW⟩ := hrel
      obtain ⟨q, hq⟩ := HW.out
      have HQ := Lib.hid hq
      have B1 := Lib.hid (show Below w.heap.size w wr by rw [hq]; exact bdn B0.out)
      by_cases hlt : k < n + 1
      · obtain ⟨vad, rfl, _, ck⟩ := (HV.out.below B1.out) k (by rw [HVL.out]; exact hlt)
        obtain ⟨_, e', _, cy⟩ := (HV.out.below B1.out) y (by rw [HVL.out]; exact hy)
        obtain rfl : vad = _ := by injection e'
        obtain ⟨zk, hzk⟩ : ∃ z, z = v.getD k 0 := ⟨_, rfl⟩
        obtain ⟨zy, hzy⟩ : ∃ z, z = v.getD y 0 := ⟨_, rfl⟩
        rw [← hzk] at ck
        rw [← hzy] at cy
        have hk1 : (k : Int) < (n : Int) + 1 := by omega
        have hy1 : (y : Int) < (n : Int) + 1 := by omega
        have HZ := Lib.hid (show zk = v.getD k 0 ∧ zy = v.getD y 0 from ⟨hzk, hzy⟩)
        clear e' hzk hzy hq HW
        by_cases hg : zy < zk
        · have HT := Lib.hid (show (∀ x, x < k + 1 → v.getD x 0 ≤ v.getD k 0) ∧ ∀ x, x < k → v.getD x 0 < v.getD k 0 from by
            have h1 := HZ.out.1; have h2 := HZ.out.2
            refine ⟨fun x hx => ?_, fun x hx => ?_⟩
            · rcases Nat.lt_or_ge x k with g | g
              · have := T.out.1 x g; omega
              · have : x = k := by omega
                rw [this]; exact Int.le_refl _
            · have := T.out.1 x hx; omega)
          go_wp2_with fail
          go_quiet (fail)
          go_wp2_with fail
          go_roundw
          case rel => exact ⟨k + 1, k, by omega, by omega, by go_num, rfl, HT, Lib.hid ⟨_, by rw [HQ.out, World.drewN_drewN]⟩⟩
          case measure => simp [intOf]; omega
        · have HT := Lib.hid (show (∀ x, x < k + 1 → v.getD x 0 ≤ v.getD y 0) ∧ ∀ x, x < y → v.getD x 0 < v.getD y 0 from by
            have h1 := HZ.out.1; have h2 := HZ.out.2
            refine ⟨fun x hx => ?_, T.out.2⟩
            rcases Nat.lt_or_ge x k with g | g
            · exact T.out.1 x g
            · have : x = k := by omega
              rw [this]; omega)
          go_wp2_with fail
          go_quiet (fail)
          go_wp2_with fail
          go_roundw
          case rel => exact ⟨k + 1, y, by omega, hy, by go_num, rfl, HT, Lib.hid ⟨_, by rw [HQ.out, World.drewN_drewN]⟩⟩
          case measure => simp [intOf]; omega
      · obtain rfl : k = n + 1 := by omega
        have HTOP := Lib.hid (show IsTop v y from ⟨by rw [HVL.out]; exact hy, fun x hx => T.out.1 x (by rw [← HVL.out]; exact hx), T.out.2⟩)
        have hyl : y < l.length := by rw [← HL.out]; exact hy
        obtain ⟨y0, hy0⟩ : ∃ z, z = y := ⟨_, rfl⟩
        rw [← hy0] at HTOP
        have OL := Lib.hid (show Own .i64 3 (wr.alloc (.cells #[.int .i64 (y : Int)] 3)) w.heap.size (.slice (some ⟨wr.heap.size, 0, none⟩) 1 1) (toZ (y :: [])) from Own.laid (k := .i64) (T := 3) wr w.heap.size B1.out.size (toZ [y]) 1 rfl (by omega))
        have BL := Lib.hid (show Below w1.heap.size w1 (wr.alloc (.cells #[.int .i64 (y : Int)] 3)) from by
          have hb : Below w1.heap.size w1 wr := by rw [hq]; exact bdn (Below.refl _ _)
          exact hb.alloc hb.size _)
        have HCH := Lib.hid (show ∀ d, IsBackB l v bs y d → IsBackB l v bs y0 (d ++ []) from fun d hd => by rw [hy0, List.append_nil]; exact hd)
        have hq1 : w1.heap.size ≤ wr.heap.size := by rw [hq]; exact Nat.le_refl _
        have HBA := Lib.hid (HBS.out y hy (wr.alloc (.cells #[.int .i64 (y : Int)] 3)) (B1.out.alloc B1.out.size _))
        obtain ⟨gq, hgq⟩ : ∃ x, x = wr.heap.size := ⟨_, rfl⟩
        clear hq hq1
        go_upto_region 10 with fail
        rw [← hgq] at OL ⊢
        generalize wr.alloc (.cells #[.int .i64 (y : Int)] 3) = w3 at *
        obtain ⟨j0, j1, jl⟩ := HJ.out _ BL.out
        clear HQ HW T hlt B1 hgq hyl
        go_wp2_with fail
        refine HBA.out.mono ?_
        rintro e w4 ⟨M, rfl, hM, B4⟩
        have hMv : M = bs.getD y 0 := hM.uniq (HBM.out y (by rw [← HL.out]; exact hy)) (fun _ _ => rfl)
        subst hMv
        have O4 := Lib.hid (OL.out.below B4)
        have BB4 := Lib.hid (BL.out.trans (B4.mono BL.out.size))
        clear hM B4 OL BL HBA j0 j1 jl
        have hbk0 := (HOK.out y (by rw [← HL.out]; exact hy))
        go_wp2_with fail
        go_loopw [5, 7, 8] (fun yv ov mv wi => ∃ (z : Nat) (t : List Nat), z < n + 1 ∧ yv = .int .i64 (z : Int) ∧ mv = .int .i64 (bs.getD z 0) ∧ (t.length : Int) + blk l z ≤ 31 ∧ Hid (Own .i64 3 wi w.heap.size ov (toZ (z :: t))) ∧ Hid (∀ d, IsBackB l v bs z d → IsBackB l v bs y0 (d ++ t)) ∧ Hid (Below w1.heap.size w1 wi)) (fun yv _ _ _ => (blk l (intOf yv).toNat).toNat)
        case atStart => exact ⟨y, [], hy, rfl, rfl, by simp; omega, O4, HCH, BB4⟩
        case round =>
          clear O4 HCH BB4 hbk0
          obtain ⟨z, t, hz, rfl, rfl, hlen, O, HC, B⟩ := hrel
          have BW := Lib.hid (B0.out.trans (B.out.mono B0.out.size))
          have hzl : z < l.length := by rw [← HL.out]; exact hz
          have HZL := Lib.hid hzl
          by_cases hpos : 0 < bs.getD z 0
          · have HPOS := Lib.hid hpos
            obtain ⟨mz, hmz⟩ : ∃ m, m = bs.getD z 0 := ⟨_, rfl⟩
            have HMZ := Lib.hid hmz
            rw [← hmz] at hpos ⊢
            clear hmz hzl
            go_wp2_with fail
            go_loopw [9] (fun xv wi => ∃ x : Nat, x ≤ n + 1 ∧ xv = .int .i64 (x : Int) ∧ Hid (∀ u, u < x → via l v u z ≠ bs.getD z 0) ∧ Hid (Own .i64 3 wi w.heap.size u7 (toZ (z :: t))) ∧ Hid (Below w1.heap.size w1 wi)) (fun xv _ => n + 1 - (intOf xv).toNat)
            case atStart => exact ⟨0, by omega, rfl, Lib.hid (fun u hu => absurd hu (Nat.not_lt_zero _)), O, B⟩
            case round =>
              clear O B BW
              obtain ⟨x, hx, rfl, F, O, B⟩ := hrel
              have hxl : x < n + 1 := by
                rcases Nat.lt_or_ge x (n + 1) with g | g
                · exact g
                · exfalso
                  rcases (HBM.out z HZL.out).hit with e | ⟨u, hu, e⟩
                  · have := HPOS.out; omega
                  · exact F.out u (by have : u < l.length := hu; rw [← HL.out] at this; omega) e
              have BW := Lib.hid (B0.out.trans (B.out.mono B0.out.size))
              have HKX := Lib.hid (fun (W : World) (k : Below w1.heap.size w1 W) => HKD.out x z hxl hz W (B0.out.trans (k.mono B0.out.size)))
              have HSX := Lib.hid (fun (W : World) (k : Below w1.heap.size w1 W) => HST.out x z hxl hz W (B0.out.trans (k.mono B0.out.size)))
              have HVX := Lib.hid (fun (W : World) (k : Below w1.heap.size w1 W) => (HV.out.below (B0.out.trans (k.mono B0.out.size)) : Row .i64 W W.heap.size V v))
              have HVS := Lib.hid (fun (g : rel l x z ≠ 0) => via_str (v := v) g)
              have HVZ := Lib.hid (fun (g : rel l x z = 0) => via_zero (v := v) g)
              have HBLK := Lib.hid (fun (g : rel l x z ≠ 0) => (rel_pos g).2)
              have hrc := rel_cases l x z
              have hs01 : 0 ≤ str1 l x z ∧ str1 l x z ≤ 1 := by unfold str1; split <;> omega
              obtain ⟨vad, rfl, _, cx⟩ := HVX.out wr B.out x (by rw [HVL.out]; exact hxl)
              have hzx := HBD.out x hxl
              have HVW := Lib.hid (fun (W : World) (k : Below w1.heap.size w1 W) => (show W.cell? (vad.add x) = some (.int .i64 (v.getD x 0)) from by
                obtain ⟨_, e', _, cc⟩ := HVX.out W k x (by rw [HVL.out]; exact hxl)
                obtain rfl : vad = _ := by injection e'
                exact cc))
              obtain ⟨zx, hzx2⟩ : ∃ q, q = v.getD x 0 := ⟨_, rfl⟩
              obtain ⟨r, hr⟩ : ∃ q, q = rel l x z := ⟨_, rfl⟩
              obtain ⟨s1, hs⟩ : ∃ q, q = str1 l x z := ⟨_, rfl⟩
              simp only [← hzx2, ← hr, ← hs] at HKX HSX HVS HVZ HBLK hrc hs01 hzx HVW
              obtain ⟨j0, j1, jl⟩ := HJ.out _ B.out
              have HPS := Lib.hid (fun (X : World) (k : Below w1.heap.size w1 X) => (show X.cell? ⟨b, 0, none⟩ = some (.slice A (n + 1) c) ∧ X.cell? ⟨b, 1, none⟩ = some (.int .i64 wt) ∧ X.cell? (vad.add x) = some (.int .i64 zx) from ⟨(HJ.out X k).c0, (HJ.out X k).c1, HVW.out X k⟩))
              have hx1 : (x : Int) < (n : Int) + 1 := by omega
              have hxw : IntKind.i64.wrap ((x : Int) + 1) = (x : Int) + 1 := IntWalk.i64_in _ (by omega)
              clear cx hzx2 hs hr
              go_upto_region 14 with fail
              clear j0 j1 jl
              obtain ⟨q0, e0⟩ : ∃ x, x = wr.drew := ⟨_, rfl⟩
              have K0 := Lib.hid (show Below w1.heap.size w1 q0 from by rw [e0]; exact B.out.drew)
              have O0 := Lib.hid (show Own .i64 3 q0 w.heap.size u7 (toZ (z :: t)) from by rw [e0]; exact O.out.drewN 1)
              have F0 := HPS.out q0 K0.out
              have HE0 := Lib.hid e0
              clear e0 O B BW
              refine AnyT.begin_at tlN (fun X => X.cell? ⟨b, 0, none⟩ = some (.slice A (n + 1) c) ∧ X.cell? ⟨b, 1, none⟩ = some (.int .i64 wt) ∧ X.cell? (vad.add x) = some (.int .i64 zx)) (by kernel_rfl) HE0.out F0 ?_
              clear F0 HE0
              intro F0
-- TAKES K1
              refine AnyT.takeD (i := 0) (d := some 41) (v := jv A (n + 1) c wt) rfl rfl (by kernel_rfl) (by kernel_rfl) (by kernel_rfl) (by kernel_rfl) (fun _ _ _ h => h) (Or.inl ⟨by rfl, fun wz hz => by obtain ⟨z0, z1, z2⟩ := hz; go_simp⟩) F0 ?_
              simp only [Act.put, List.setIfInBounds_toArray, List.set_cons_zero, List.set_cons_succ]
              refine AnyT.takeD (i := 1) (d := some 42) (v := .int .i64 (x : Int)) rfl rfl (by kernel_rfl) (by kernel_rfl) (by kernel_rfl) (by kernel_rfl) (fun _ _ _ h => h) (Or.inl ⟨by rfl, fun wz _ => by go_simp⟩) F0 ?_
              simp only [Act.put, List.setIfInBounds_toArray, List.set_cons_zero, List.set_cons_succ]
              refine AnyT.takeD (i := 2) (d := some 43) (v := .int .i64 (z : Int)) rfl rfl (by kernel_rfl) (by kernel_rfl) (by kernel_rfl) (by kernel_rfl) (fun _ _ _ h => h) (Or.inl ⟨by rfl, fun wz _ => by go_simp⟩) F0 ?_
              simp only [Act.put, List.setIfInBounds_toArray, List.set_cons_zero, List.set_cons_succ]
              -- TAKEN K1
              refine AnyT.branch (rs := [3]) (by kernel_rfl) (by simp) ?_
              refine all_cons (?_) all_nil
              refine AnyT.enter (i := 3) (d := some 44) (f := 28) (args := #[jv A (n + 1) c wt, .int .i64 (x : Int), .int .i64 (z : Int)]) rfl rfl rfl (by go_simp) (HKX.out q0 K0.out) ?_
              rintro e q1 ⟨rfl, hB1⟩
              have K1 := Lib.hid (K0.out.trans (hB1.mono K0.out.size))
              have O1 := Lib.hid (O0.out.below hB1)
              have F1 := HPS.out q1 K1.out
              refine ⟨_, rfl, fun _ => F1, ?_⟩
              clear hB1 F0 HKX K0 O0
              simp only [Act.put, List.setIfInBounds_toArray, List.set_cons_zero, List.set_cons_succ]
              by_cases hr0 : r = 0
              · have HF1 := Lib.hid (show ∀ u, u < x + 1 → via l v u z ≠ bs.getD z 0 from fun u hu => by
                  rcases Nat.lt_or_ge u x with g | g
                  · exact F.out u g
                  · obtain rfl : u = x := by omega
                    rw [HVZ.out hr0]
                    have := HPOS.out; omega)
                subst hr0
-- TAKES K2
                refine AnyT.takeD (i := 4) (d := some 45) (v := .bool true) rfl rfl (by kernel_rfl) (by kernel_rfl) (by kernel_rfl) (by kernel_rfl) (fun _ _ _ h => h) (Or.inl ⟨by rfl, fun wz _ => by go_simp⟩) F1 ?_
                simp only [Act.put, List.setIfInBounds_toArray, List.set_cons_zero, List.set_cons_succ]
                refine AnyT.takeD (i := 5) (d := some 46) (v := .bool true) rfl rfl (by kernel_rfl) (by kernel_rfl) (by kernel_rfl) (by kernel_rfl) (fun _ _ _ h => h) (Or.inl ⟨by rfl, fun wz _ => by go_simp⟩) F1 ?_
                simp only [Act.put, List.setIfInBounds_toArray, List.set_cons_zero, List.set_cons_succ]
                refine AnyT.takeD (i := 6) (d := some 47) (v := undef) rfl rfl (by kernel_rfl) (by kernel_rfl) (by kernel_rfl) (by kernel_rfl) (fun _ _ _ h => h) (Or.inr ⟨by rfl, rfl⟩) F1 ?_
                simp only [Act.put, List.setIfInBounds_toArray, List.set_cons_zero, List.set_cons_succ]
                refine AnyT.takeD (i := 7) (d := some 48) (v := undef) rfl rfl (by kernel_rfl) (by kernel_rfl) (by kernel_rfl) (by kernel_rfl) (fun _ _ _ h => h) (Or.inr ⟨by rfl, rfl⟩) F1 ?_
                simp only [Act.put, List.setIfInBounds_toArray, List.set_cons_zero, List.set_cons_succ]
                refine AnyT.takeD (i := 8) (d := some 49) (v := undef) rfl rfl (by kernel_rfl) (by kernel_rfl) (by kernel_rfl) (by kernel_rfl) (fun _ _ _ h => h) (Or.inr ⟨by rfl, rfl⟩) F1 ?_
                simp only [Act.put, List.setIfInBounds_toArray, List.set_cons_zero, List.set_cons_succ]
                refine AnyT.takeD (i := 9) (d := some 50) (v := undef) rfl rfl (by kernel_rfl) (by kernel_rfl) (by kernel_rfl) (by kernel_rfl) (fun _ _ _ h => h) (Or.inr ⟨by rfl, rfl⟩) F1 ?_
                simp only [Act.put, List.setIfInBounds_toArray, List.set_cons_zero, List.set_cons_succ]
                refine AnyT.takeD (i := 10) (d := some 51) (v := undef) rfl rfl (by kernel_rfl) (by kernel_rfl) (by kernel_rfl) (by kernel_rfl) (fun _ _ _ h => h) (Or.inr ⟨by rfl, rfl⟩) F1 ?_
                simp only [Act.put, List.setIfInBounds_toArray, List.set_cons_zero, List.set_cons_succ]
                refine AnyT.takeD (i := 11) (d := some 52) (v := undef) rfl rfl (by kernel_rfl) (by kernel_rfl) (by kernel_rfl) (by kernel_rfl) (fun _ _ _ h => h) (Or.inr ⟨by rfl, rfl⟩) F1 ?_
                simp only [Act.put, List.setIfInBounds_toArray, List.set_cons_zero, List.set_cons_succ]
                refine AnyT.takeD (i := 12) (d := some 53) (v := undef) rfl rfl (by kernel_rfl) (by kernel_rfl) (by kernel_rfl) (by kernel_rfl) (fun _ _ _ h => h) (Or.inr ⟨by rfl, rfl⟩) F1 ?_
                simp only [Act.put, List.setIfInBounds_toArray, List.set_cons_zero, List.set_cons_succ]
                refine AnyT.takeD (i := 13) (d := some 54) (v := undef) rfl rfl (by kernel_rfl) (by kernel_rfl) (by kernel_rfl) (by kernel_rfl) (fun _ _ _ h => h) (Or.inr ⟨by rfl, rfl⟩) F1 ?_
                simp only [Act.put, List.setIfInBounds_toArray, List.set_cons_zero, List.set_cons_succ]
                refine AnyT.takeD (i := 14) (d := some 55) (v := undef) rfl rfl (by kernel_rfl) (by kernel_rfl) (by kernel_rfl) (by kernel_rfl) (fun _ _ _ h => h) (Or.inr ⟨by rfl, rfl⟩) F1 ?_
                simp only [Act.put, List.setIfInBounds_toArray, List.set_cons_zero, List.set_cons_succ]
                refine AnyT.takeD (i := 15) (d := some 56) (v := undef) rfl rfl (by kernel_rfl) (by kernel_rfl) (by kernel_rfl) (by kernel_rfl) (fun _ _ _ h => h) (Or.inr ⟨by rfl, rfl⟩) F1 ?_
                simp only [Act.put, List.setIfInBounds_toArray, List.set_cons_zero, List.set_cons_succ]
                refine AnyT.takeD (i := 16) (d := some 57) (v := undef) rfl rfl (by kernel_rfl) (by kernel_rfl) (by kernel_rfl) (by kernel_rfl) (fun _ _ _ h => h) (Or.inr ⟨by rfl, rfl⟩) F1 ?_
                simp only [Act.put, List.setIfInBounds_toArray, List.set_cons_zero, List.set_cons_succ]
                refine AnyT.takeD (i := 17) (d := some 58) (v := .bool true) rfl rfl (by kernel_rfl) (by kernel_rfl) (by kernel_rfl) (by kernel_rfl) (fun _ _ _ h => h) (Or.inl ⟨by rfl, fun wz _ => by go_simp⟩) F1 ?_
                simp only [Act.put, List.setIfInBounds_toArray, List.set_cons_zero, List.set_cons_succ]
                -- TAKEN K2
                refine AnyT.done_ (by kernel_rfl) ?_ _
                clear F1 HPS HSX HVW HVS HVZ HBLK
                go_wp2_with fail
                go_roundw
                case rel => exact ⟨x + 1, by omega, by go_num, HF1, O1, K1⟩
                case measure => simp [intOf]; omega
              · have hrz : (r == 0) = false := by simpa using hr0
                have hwr : IntKind.i64.wrap (zx + s1) = zx + s1 := IntWalk.i64_in _ (by omega)
-- TAKES K3
                refine AnyT.takeD (i := 4) (d := some 45) (v := .bool false) rfl rfl (by kernel_rfl) (by kernel_rfl) (by kernel_rfl) (by kernel_rfl) (fun _ _ _ h => h) (Or.inl ⟨by rfl, fun wz _ => by go_simp⟩) F1 ?_
                simp only [Act.put, List.setIfInBounds_toArray, List.set_cons_zero, List.set_cons_succ]
                refine AnyT.takeD (i := 5) (d := some 46) (v := .bool false) rfl rfl (by kernel_rfl) (by kernel_rfl) (by kernel_rfl) (by kernel_rfl) (fun _ _ _ h => h) (Or.inl ⟨by rfl, fun wz _ => by go_simp⟩) F1 ?_
                simp only [Act.put, List.setIfInBounds_toArray, List.set_cons_zero, List.set_cons_succ]
                refine AnyT.takeD (i := 6) (d := some 47) (v := .slice (some vad) (n + 1) cv) rfl rfl (by kernel_rfl) (by kernel_rfl) (by kernel_rfl) (by kernel_rfl) (fun _ _ _ h => h) (Or.inl ⟨by rfl, fun wz _ => by go_simp⟩) F1 ?_
                simp only [Act.put, List.setIfInBounds_toArray, List.set_cons_zero, List.set_cons_succ]
                refine AnyT.takeD (i := 7) (d := some 48) (v := .int .i64 (x : Int)) rfl rfl (by kernel_rfl) (by kernel_rfl) (by kernel_rfl) (by kernel_rfl) (fun _ _ _ h => h) (Or.inl ⟨by rfl, fun wz _ => by go_simp⟩) F1 ?_
                simp only [Act.put, List.setIfInBounds_toArray, List.set_cons_zero, List.set_cons_succ]
                refine AnyT.takeD (i := 8) (d := some 49) (v := .pointer (some (vad.add x))) rfl rfl (by kernel_rfl) (by kernel_rfl) (by kernel_rfl) (by kernel_rfl) (fun _ _ _ h => h) (Or.inl ⟨by rfl, fun wz _ => by go_simp⟩) F1 ?_
                simp only [Act.put, List.setIfInBounds_toArray, List.set_cons_zero, List.set_cons_succ]
                refine AnyT.takeD (i := 9) (d := some 50) (v := .int .i64 zx) rfl rfl (by kernel_rfl) (by kernel_rfl) (by kernel_rfl) (by kernel_rfl) (fun _ _ _ h => h) (Or.inl ⟨by rfl, fun wz hz => by obtain ⟨z0, z1, z2⟩ := hz; go_simp⟩) F1 ?_
                simp only [Act.put, List.setIfInBounds_toArray, List.set_cons_zero, List.set_cons_succ]
                refine AnyT.takeD (i := 10) (d := some 51) (v := jv A (n + 1) c wt) rfl rfl (by kernel_rfl) (by kernel_rfl) (by kernel_rfl) (by kernel_rfl) (fun _ _ _ h => h) (Or.inl ⟨by rfl, fun wz hz => by obtain ⟨z0, z1, z2⟩ := hz; go_simp⟩) F1 ?_
                simp only [Act.put, List.setIfInBounds_toArray, List.set_cons_zero, List.set_cons_succ]
                refine AnyT.takeD (i := 11) (d := some 52) (v := .int .i64 (x : Int)) rfl rfl (by kernel_rfl) (by kernel_rfl) (by kernel_rfl) (by kernel_rfl) (fun _ _ _ h => h) (Or.inl ⟨by rfl, fun wz _ => by go_simp⟩) F1 ?_
                simp only [Act.put, List.setIfInBounds_toArray, List.set_cons_zero, List.set_cons_succ]
                refine AnyT.takeD (i := 12) (d := some 53) (v := .int .i64 (z : Int)) rfl rfl (by kernel_rfl) (by kernel_rfl) (by kernel_rfl) (by kernel_rfl) (fun _ _ _ h => h) (Or.inl ⟨by rfl, fun wz _ => by go_simp⟩) F1 ?_
                simp only [Act.put, List.setIfInBounds_toArray, List.set_cons_zero, List.set_cons_succ]
                refine AnyT.takeD (i := 15) (d := some 56) (v := .int .i64 mz) rfl rfl (by kernel_rfl) (by kernel_rfl) (by kernel_rfl) (by kernel_rfl) (fun _ _ _ h => h) (Or.inl ⟨by rfl, fun wz _ => by go_simp⟩) F1 ?_
                simp only [Act.put, List.setIfInBounds_toArray, List.set_cons_zero, List.set_cons_succ]
                -- TAKEN K3
                refine AnyT.branch (rs := [13]) (by kernel_rfl) (by simp) ?_
                refine all_cons (?_) all_nil
                refine AnyT.enterG (i := 13) (d := some 54) (f := 29) (args := #[jv A (n + 1) c wt, .int .i64 (x : Int), .int .i64 (z : Int)]) rfl (by rfl) rfl (by go_simp) (HSX.out q1 K1.out) ?_
                rintro e q2 ⟨rfl, hB2⟩
                have K2 := Lib.hid (K1.out.trans (hB2.mono K1.out.size))
                have O2 := Lib.hid (O1.out.below hB2)
                have F2 := HPS.out q2 K2.out
                refine ⟨_, rfl, fun _ => F2, ?_⟩
                clear hB2 F1 HSX K1 O1
                simp only [Act.put, List.setIfInBounds_toArray, List.set_cons_zero, List.set_cons_succ]
                by_cases hne : zx + s1 = mz
                · have hnb : (zx + s1 != mz) = false := by simp [hne]
                  have hwm : IntKind.i64.wrap mz = mz := by rw [← hne]; exact hwr
                  have hvia : via l v x z = bs.getD z 0 := by rw [HVS.out hr0, hne, HMZ.out]
                  have hbl := HBLK.out hr0
                  have HC2 := Lib.hid (show ∀ d, IsBackB l v bs x d → IsBackB l v bs y0 (d ++ (z :: t)) from fun d hd => by
                    have := HC.out (d ++ [z]) (.step z x d HPOS.out (by rw [← HL.out]; exact hxl) hvia F.out hd)
                    rwa [List.append_assoc, List.singleton_append] at this)
-- TAKES K4
                  refine AnyT.takeD (i := 14) (d := some 55) (v := .int .i64 (zx + s1)) rfl rfl (by kernel_rfl) (by kernel_rfl) (by kernel_rfl) (by kernel_rfl) (fun _ _ _ h => h) (Or.inl ⟨by rfl, fun wz _ => by go_simp⟩) F2 ?_
                  simp only [Act.put, List.setIfInBounds_toArray, List.set_cons_zero, List.set_cons_succ]
                  refine AnyT.takeD (i := 16) (d := some 57) (v := .bool false) rfl rfl (by kernel_rfl) (by kernel_rfl) (by kernel_rfl) (by kernel_rfl) (fun _ _ _ h => h) (Or.inl ⟨by rfl, fun wz _ => by go_simp⟩) F2 ?_
                  simp only [Act.put, List.setIfInBounds_toArray, List.set_cons_zero, List.set_cons_succ]
                  refine AnyT.takeD (i := 17) (d := some 58) (v := .bool false) rfl rfl (by kernel_rfl) (by kernel_rfl) (by kernel_rfl) (by kernel_rfl) (fun _ _ _ h => h) (Or.inl ⟨by rfl, fun wz _ => by go_simp⟩) F2 ?_
                  simp only [Act.put, List.setIfInBounds_toArray, List.set_cons_zero, List.set_cons_succ]
                  -- TAKEN K4
                  refine AnyT.done_ (by kernel_rfl) ?_ _
                  clear F2 HPS HVW HVS HVZ HBLK hnb hwr hrz hvia hne hwm
                  have B2 := Lib.hid (B0.out.trans (K2.out.mono B0.out.size))
                  obtain ⟨A7, c7, e7, R7, -, hm7, hA7⟩ := O2.out.slice
                  subst e7
                  have R7h := Lib.hid R7
                  have HA7 := Lib.hid hA7
                  have HM7 := Lib.hid hm7
                  have hzb := HOK.out z HZL.out
                  have hxb := HOK.out x (by rw [← HL.out]; exact hxl)
                  have HM := Lib.hid (show (toZ (z :: t)).length ≤ 32 by rw [toZ_len, List.length_cons]; omega)
                  obtain ⟨m7, em7⟩ : ∃ m, m = (toZ (z :: t)).length := ⟨_, rfl⟩
                  have HME := Lib.hid em7
                  have HNA := Lib.hid (show A7 = none → m7 = 0 ∧ c7 = 0 from fun e => by
                    obtain ⟨g, h1, _⟩ := HA7.out (by rw [toZ_len, List.length_cons]; omega)
                    rw [e] at h1; cases h1)
                  rw [← em7] at O2 ⊢
                  have HM2 := Lib.hid (show m7 ≤ 32 by rw [em7]; exact HM.out)
                  have OL := Lib.hid (show Own .i64 3 (q2.alloc (.cells #[.int .i64 (x : Int)] 3)) w.heap.size (.slice (some ⟨q2.heap.size, 0, none⟩) 1 1) (toZ (x :: [])) from Own.laid (k := .i64) (T := 3) q2 w.heap.size B2.out.size (toZ [x]) 1 rfl (by omega))
                  have HB0 := Lib.hid (show w.heap.size ≤ (q2.alloc (.cells #[.int .i64 (x : Int)] 3)).heap.size from Nat.le_trans B2.out.size (by simp))
                  have RN := Lib.hid (Row.newsO (R7h.out.below ((Below.refl q2.heap.size q2).alloc (Nat.le_refl _) (.cells #[.int .i64 (x : Int)] 3))))
                  have KA := Lib.hid (K2.out.alloc K2.out.size (.cells #[.int .i64 (x : Int)] 3))
                  have KSZ := Lib.hid K2.out.size
                  have HEL := Lib.hid (show 1 + m7 = (toZ (x :: z :: t)).length by rw [HME.out]; simp only [toZ_len, List.length_cons]; omega)
                  obtain ⟨i0, hi, hz0, hz1, hz2⟩ := info_parts infoIntW
                  clear R7 hA7 hm7 em7 HM HA7 O2 K2 B2 R7h
                  go_upto_region 17 with (first | (at_builtin; refine wpList_app_src rfl (.tmp 62) (.tmp 63) 22 rfl w.heap.size 3 i0 (.int .i64 0) 1 8 Try.underlying22 hi hz0 hz1 hz2 rfl (by decide) (.slice (some ⟨q2.heap.size, 0, none⟩) 1 1) 1 [.int .i64 (x : Int)] rfl OL.out A7 m7 c7 ((toZ (z :: t)).map (Value.int .i64)) rfl HNA.out (by rw [List.length_map, HME.out]; omega) RN.out one_cells (by have := HM2.out; unfold maxLen; omega) (by have := HM2.out; omega) HB0.out ?_; intro v7 w7 hown hg; have O7 := Lib.hid (show Own .i64 3 w7 w.heap.size v7 (toZ (x :: z :: t)) from (by rw [HEL.out] at hown; exact hown)); have K7 := Lib.hid (KA.out.grown hg KA.out.size (fun k e => (by have h1 := KSZ.out; simp [Value.ownBlock] at e; omega))); clear hown hg OL RN KA KSZ HB0))
                  have HBA := Lib.hid (HBS.out x hxl w7 (B0.out.trans (K7.out.mono B0.out.size)))
                  obtain ⟨j0, j1, jl⟩ := HJ.out _ K7.out
                  go_wp2_with fail
                  refine HBA.out.mono ?_
                  rintro e w8 ⟨M, rfl, hM, B8⟩
                  have hMv : M = bs.getD x 0 := hM.uniq (HBM.out x (by rw [← HL.out]; exact hxl)) (fun _ _ => rfl)
                  subst hMv
                  have O8 := Lib.hid (O7.out.below B8)
                  have K8 := Lib.hid (K7.out.trans (B8.mono K7.out.size))
                  clear hM B8 O7 K7 HBA j0 j1 jl
                  go_wp2_with fail
                  go_roundw
                  case rel => exact ⟨x, z :: t, hxl, rfl, rfl, by rw [List.length_cons]; omega, O8, HC2, K8⟩
                  case measure => simp [intOf]; omega
                · have hnb : (zx + s1 != mz) = true := by simpa using hne
                  have HF1 := Lib.hid (show ∀ u, u < x + 1 → via l v u z ≠ bs.getD z 0 from fun u hu => by
                    rcases Nat.lt_or_ge u x with g | g
                    · exact F.out u g
                    · obtain rfl : u = x := by omega
                      rw [HVS.out hr0, ← HMZ.out]
                      exact hne)
-- TAKES K5
                  refine AnyT.takeD (i := 14) (d := some 55) (v := .int .i64 (zx + s1)) rfl rfl (by kernel_rfl) (by kernel_rfl) (by kernel_rfl) (by kernel_rfl) (fun _ _ _ h => h) (Or.inl ⟨by rfl, fun wz _ => by go_simp⟩) F2 ?_
                  simp only [Act.put, List.setIfInBounds_toArray, List.set_cons_zero, List.set_cons_succ]
                  refine AnyT.takeD (i := 16) (d := some 57) (v := .bool true) rfl rfl (by kernel_rfl) (by kernel_rfl) (by kernel_rfl) (by kernel_rfl) (fun _ _ _ h => h) (Or.inl ⟨by rfl, fun wz _ => by go_simp⟩) F2 ?_
                  simp only [Act.put, List.setIfInBounds_toArray, List.set_cons_zero, List.set_cons_succ]
                  refine AnyT.takeD (i := 17) (d := some 58) (v := .bool true) rfl rfl (by kernel_rfl) (by kernel_rfl) (by kernel_rfl) (by kernel_rfl) (fun _ _ _ h => h) (Or.inl ⟨by rfl, fun wz _ => by go_simp⟩) F2 ?_
                  simp only [Act.put, List.setIfInBounds_toArray, List.set_cons_zero, List.set_cons_succ]
                  -- TAKEN K5
                  refine AnyT.done_ (by kernel_rfl) ?_ _
                  clear F2 HPS HVW HVS HVZ HBLK hnb hwr hrz hne
                  go_wp2_with fail
                  go_roundw
                  case rel => exact ⟨x + 1, by omega, by go_num, HF1, O2, K2⟩
                  case measure => simp [intOf]; omega
          · have hb0 := (HBM.out z hzl).pos
            have h0 : ¬ (0 : Int) < bs.getD z 0 := hpos
            have HFB := Lib.hid (show IsBackB l v bs y0 (z :: t) from HC.out [z] (.one z (by omega)))
            clear HC hpos hb0
            generalize bs.getD z 0 = mz at *
            go_wp2_with fail
            go_ret
            exact ⟨_, toZ (z :: t), rfl, O.out, Or.inr ⟨y0, z :: t, HTOP.out, HFB.out, rfl⟩, BW.out⟩
end Go.Proofs.Ytlagadbkencpbaa

namespace Go.Proofs.Ytlagadbkencpbaa
open Go.RowKit Go.Lib

theorem vk_str {l : List It} {x y : Nat} {m : Int} (h : rel l x y ≠ 0) : vk (rel l x y) m = m + str1 l x y := by
  unfold vk str1
  rcases rel_cases l x y with e | e | e
  · exact absurd e h
  · rw [e]; simp
  · rw [e]; simp
set_option maxRecDepth 100000 in
set_option maxHeartbeats 3200000 in
theorem rbound_any (l : List It) (A C : Option Addr) (c cc L n : Nat) (wt : Int) (hL : L = l.length) (cs : List Int) (hn : n = cs.length) (hm : n ≤ maxLen) (w : World) (hi : IRow w A l) (hc : Row .i64 w w.heap.size C cs) :
    Calls Try.prog 46 #[jv A L c wt, .slice C n cc] w fun e w' => e = .returned (R2 (boundE l wt cs)) ∧ Below w.heap.size w w' := by
  have hm' : n ≤ 9223372036854775807 := hm
  have HI := Lib.hid hi
  have HC := Lib.hid hc
  have HL := Lib.hid hL
  have HN := Lib.hid hn
  have HVL := Lib.hid (fun (W : World) (k : IRow W A l) => rvalid_any l A c wt W k)
  have HKI := Lib.hid (fun (x y : Nat) (hx : x < L) (hy : y < L) (W : World) (k : IRow W A l) => kind_any l A c wt x y (by rw [← hL]; exact hx) (by rw [← hL]; exact hy) W k)
  have HSI := Lib.hid (fun (x y : Nat) (hx : x < L) (hy : y < L) (W : World) (k : IRow W A l) => strict_any l A c wt x y (by rw [← hL]; exact hx) (by rw [← hL]; exact hy) W k)
  rw [← hL] at HVL HKI HSI
  have HE := Lib.hid (show boundE l wt cs = if validR l wt ≠ 0 then (0, validR l wt) else if chB l none cs = true then bnd l wt none 0 (cs.map Int.toNat) else (0, 1) from rfl)
  have J0 := Lib.hid (JBox.new (w := w) (A := A) (n := L) (c := c) (wt := wt) w.heap.size rfl)
  have B0 := Lib.hid ((Below.refl w.heap.size w).alloc (Nat.le_refl _) (.cells #[.slice A L c, .int .i64 wt] 39))
  obtain ⟨b, hb⟩ : ∃ b, b = w.heap.size := ⟨_, rfl⟩
  clear hi hc hL hn hm
  go_enter Try.func46, Try.ntmps46
  go_upto_region 1 with fail
  rw [← hb] at J0 ⊢
  generalize w.alloc (.cells #[.slice A L c, .int .i64 wt] 39) = w1 at *
  clear hb
  obtain ⟨j0, j1, jl⟩ := J0.out
  go_wp2_with fail
  refine (HVL.out w1 (HI.out.below B0.out)).mono ?_
  rintro e w2 ⟨rfl, hB2⟩
  have J2 := Lib.hid (J0.out.below hB2 jl)
  have B2 := Lib.hid (B0.out.trans (hB2.mono B0.out.size))
  clear j0 j1 jl J0 B0 hB2 HVL
  by_cases he : validR l wt = 0
  · have HV := Lib.hid he
    have hE := HE.out
    rw [if_neg (fun g => g he)] at hE
    have HE := Lib.hid hE
    have hL96 : L ≤ 96 := by have := (valid_ok he).1; have := HL.out; omega
    rw [he]
    clear he hE
    go_wp2_with fail
    go_loopw [7] (fun iv wr => ∃ k : Nat, k ≤ n ∧ iv = .int .i64 (k : Int) ∧ Hid (∃ p, chB l none cs = chB l p (cs.drop k) ∧ (k = 0 → p = none) ∧ (0 < k → ∃ q : Nat, p = some q ∧ q < L ∧ cs.getD (k - 1) 0 = (q : Int))) ∧ Hid (Below w2.heap.size w2 wr)) (fun iv _ => n - (intOf iv).toNat)
    case atStart => exact ⟨0, by omega, rfl, Lib.hid ⟨none, rfl, fun _ => rfl, fun h => absurd h (Nat.lt_irrefl _)⟩, Lib.hid (Below.refl _ _)⟩
    case round =>
      obtain ⟨k, hk, rfl, P, BR⟩ := hrel
      have BW := Lib.hid (B2.out.trans (BR.out.mono B2.out.size))
      by_cases hlt : k < n
      · obtain ⟨ad, rfl, _, ck⟩ := (HC.out.below BW.out) k (by rw [← HN.out]; exact hlt)
        obtain ⟨x, hx⟩ : ∃ x, x = cs.getD k 0 := ⟨_, rfl⟩
        have hd := drop_I (d := cs) (k := k) (by rw [← HN.out]; exact hlt)
        rw [← hx] at ck hd
        have HD := Lib.hid hd
        have HX := Lib.hid hx
        obtain ⟨j0, j1, jl⟩ := (J2.out.below BR.out J2.out.lt)
        have hki : (k : Int) < (n : Int) := by omega
        clear hd hx
        by_cases hx0 : x < 0
        · obtain ⟨p, hp, _⟩ := P.out
          have HF := Lib.hid (show boundE l wt cs = (0, 1) by rw [HE.out, hp, HD.out, chB_bad (by omega), if_neg (by decide)])
          clear hp
          have ltk := lt_of_cell ck
          have HPS := Lib.hid (fun (Y : World) (hY : Below wr.heap.size wr Y) => (show Y.cell? ⟨b, 0, none⟩ = some (.slice A L c) ∧ Y.cell? ⟨b, 1, none⟩ = some (.int .i64 wt) ∧ Y.cell? (ad.add k) = some (.int .i64 x) from
            ⟨(hY.cell (p := ⟨b, 0, none⟩) jl).trans j0, (hY.cell (p := ⟨b, 1, none⟩) jl).trans j1, (hY.cell ltk).trans ck⟩))
          clear ltk
          go_upto_region 7 with fail
          clear ck j0 j1
          obtain ⟨q0, e0⟩ : ∃ x, x = wr.drew := ⟨_, rfl⟩
          have K0 := Lib.hid (show Below wr.heap.size wr q0 from by rw [e0]; exact (Below.refl _ _).drew)
          have F0 := HPS.out q0 K0.out
          have HE0 := Lib.hid e0
          clear e0
          refine AnyT.begin_at tlN (fun Y => Y.cell? ⟨b, 0, none⟩ = some (.slice A L c) ∧ Y.cell? ⟨b, 1, none⟩ = some (.int .i64 wt) ∧ Y.cell? (ad.add k) = some (.int .i64 x)) (by kernel_rfl) HE0.out F0 ?_
          clear F0
          intro F0
-- TAKES NA
          refine AnyT.takeD (i := 0) (d := some 23) (v := .slice (some ad) n cc) rfl rfl (by kernel_rfl) (by kernel_rfl) (by kernel_rfl) (by kernel_rfl) (fun _ _ _ h => h) (Or.inl ⟨by rfl, fun wz _ => by go_simp⟩) F0 ?_
          simp only [Act.put, List.setIfInBounds_toArray, List.set_cons_zero, List.set_cons_succ]
          refine AnyT.takeD (i := 1) (d := some 24) (v := .int .i64 (k : Int)) rfl rfl (by kernel_rfl) (by kernel_rfl) (by kernel_rfl) (by kernel_rfl) (fun _ _ _ h => h) (Or.inl ⟨by rfl, fun wz _ => by go_simp⟩) F0 ?_
          simp only [Act.put, List.setIfInBounds_toArray, List.set_cons_zero, List.set_cons_succ]
          refine AnyT.takeD (i := 2) (d := some 25) (v := .pointer (some (ad.add k))) rfl rfl (by kernel_rfl) (by kernel_rfl) (by kernel_rfl) (by kernel_rfl) (fun _ _ _ h => h) (Or.inl ⟨by rfl, fun wz _ => by go_simp⟩) F0 ?_
          simp only [Act.put, List.setIfInBounds_toArray, List.set_cons_zero, List.set_cons_succ]
          refine AnyT.takeD (i := 3) (d := some 26) (v := .int .i64 x) rfl rfl (by kernel_rfl) (by kernel_rfl) (by kernel_rfl) (by kernel_rfl) (fun _ _ _ h => h) (Or.inl ⟨by rfl, fun wz hz => by obtain ⟨z0, z1, z2⟩ := hz; go_simp⟩) F0 ?_
          simp only [Act.put, List.setIfInBounds_toArray, List.set_cons_zero, List.set_cons_succ]
          refine AnyT.takeD (i := 4) (d := some 27) (v := .bool true) rfl rfl (by kernel_rfl) (by kernel_rfl) (by kernel_rfl) (by kernel_rfl) (fun _ _ _ h => h) (Or.inl ⟨by rfl, fun wz _ => by go_simp⟩) F0 ?_
          simp only [Act.put, List.setIfInBounds_toArray, List.set_cons_zero, List.set_cons_succ]
          refine AnyT.takeD (i := 5) (d := some 28) (v := .bool true) rfl rfl (by kernel_rfl) (by kernel_rfl) (by kernel_rfl) (by kernel_rfl) (fun _ _ _ h => h) (Or.inl ⟨by rfl, fun wz _ => by go_simp⟩) F0 ?_
          simp only [Act.put, List.setIfInBounds_toArray, List.set_cons_zero, List.set_cons_succ]
          refine AnyT.takeD (i := 6) (d := some 29) (v := undef) rfl rfl (by kernel_rfl) (by kernel_rfl) (by kernel_rfl) (by kernel_rfl) (fun _ _ _ h => h) (Or.inr ⟨by rfl, rfl⟩) F0 ?_
          simp only [Act.put, List.setIfInBounds_toArray, List.set_cons_zero, List.set_cons_succ]
          refine AnyT.takeD (i := 7) (d := some 30) (v := undef) rfl rfl (by kernel_rfl) (by kernel_rfl) (by kernel_rfl) (by kernel_rfl) (fun _ _ _ h => h) (Or.inr ⟨by rfl, rfl⟩) F0 ?_
          simp only [Act.put, List.setIfInBounds_toArray, List.set_cons_zero, List.set_cons_succ]
          refine AnyT.takeD (i := 8) (d := some 31) (v := undef) rfl rfl (by kernel_rfl) (by kernel_rfl) (by kernel_rfl) (by kernel_rfl) (fun _ _ _ h => h) (Or.inr ⟨by rfl, rfl⟩) F0 ?_
          simp only [Act.put, List.setIfInBounds_toArray, List.set_cons_zero, List.set_cons_succ]
          refine AnyT.takeD (i := 9) (d := some 32) (v := undef) rfl rfl (by kernel_rfl) (by kernel_rfl) (by kernel_rfl) (by kernel_rfl) (fun _ _ _ h => h) (Or.inr ⟨by rfl, rfl⟩) F0 ?_
          simp only [Act.put, List.setIfInBounds_toArray, List.set_cons_zero, List.set_cons_succ]
          refine AnyT.takeD (i := 10) (d := some 33) (v := undef) rfl rfl (by kernel_rfl) (by kernel_rfl) (by kernel_rfl) (by kernel_rfl) (fun _ _ _ h => h) (Or.inr ⟨by rfl, rfl⟩) F0 ?_
          simp only [Act.put, List.setIfInBounds_toArray, List.set_cons_zero, List.set_cons_succ]
          refine AnyT.takeD (i := 11) (d := some 34) (v := undef) rfl rfl (by kernel_rfl) (by kernel_rfl) (by kernel_rfl) (by kernel_rfl) (fun _ _ _ h => h) (Or.inr ⟨by rfl, rfl⟩) F0 ?_
          simp only [Act.put, List.setIfInBounds_toArray, List.set_cons_zero, List.set_cons_succ]
          refine AnyT.takeD (i := 12) (d := some 35) (v := undef) rfl rfl (by kernel_rfl) (by kernel_rfl) (by kernel_rfl) (by kernel_rfl) (fun _ _ _ h => h) (Or.inr ⟨by rfl, rfl⟩) F0 ?_
          simp only [Act.put, List.setIfInBounds_toArray, List.set_cons_zero, List.set_cons_succ]
          refine AnyT.takeD (i := 13) (d := some 36) (v := undef) rfl rfl (by kernel_rfl) (by kernel_rfl) (by kernel_rfl) (by kernel_rfl) (fun _ _ _ h => h) (Or.inr ⟨by rfl, rfl⟩) F0 ?_
          simp only [Act.put, List.setIfInBounds_toArray, List.set_cons_zero, List.set_cons_succ]
          refine AnyT.takeD (i := 14) (d := some 37) (v := .bool true) rfl rfl (by kernel_rfl) (by kernel_rfl) (by kernel_rfl) (by kernel_rfl) (fun _ _ _ h => h) (Or.inl ⟨by rfl, fun wz _ => by go_simp⟩) F0 ?_
          simp only [Act.put, List.setIfInBounds_toArray, List.set_cons_zero, List.set_cons_succ]
          refine AnyT.takeD (i := 15) (d := some 38) (v := .bool true) rfl rfl (by kernel_rfl) (by kernel_rfl) (by kernel_rfl) (by kernel_rfl) (fun _ _ _ h => h) (Or.inl ⟨by rfl, fun wz _ => by go_simp⟩) F0 ?_
          simp only [Act.put, List.setIfInBounds_toArray, List.set_cons_zero, List.set_cons_succ]
          refine AnyT.takeD (i := 16) (d := some 39) (v := undef) rfl rfl (by kernel_rfl) (by kernel_rfl) (by kernel_rfl) (by kernel_rfl) (fun _ _ _ h => h) (Or.inr ⟨by rfl, rfl⟩) F0 ?_
          simp only [Act.put, List.setIfInBounds_toArray, List.set_cons_zero, List.set_cons_succ]
          refine AnyT.takeD (i := 17) (d := some 40) (v := undef) rfl rfl (by kernel_rfl) (by kernel_rfl) (by kernel_rfl) (by kernel_rfl) (fun _ _ _ h => h) (Or.inr ⟨by rfl, rfl⟩) F0 ?_
          simp only [Act.put, List.setIfInBounds_toArray, List.set_cons_zero, List.set_cons_succ]
          refine AnyT.takeD (i := 18) (d := some 41) (v := undef) rfl rfl (by kernel_rfl) (by kernel_rfl) (by kernel_rfl) (by kernel_rfl) (fun _ _ _ h => h) (Or.inr ⟨by rfl, rfl⟩) F0 ?_
          simp only [Act.put, List.setIfInBounds_toArray, List.set_cons_zero, List.set_cons_succ]
          refine AnyT.takeD (i := 19) (d := some 42) (v := undef) rfl rfl (by kernel_rfl) (by kernel_rfl) (by kernel_rfl) (by kernel_rfl) (fun _ _ _ h => h) (Or.inr ⟨by rfl, rfl⟩) F0 ?_
          simp only [Act.put, List.setIfInBounds_toArray, List.set_cons_zero, List.set_cons_succ]
          refine AnyT.takeD (i := 20) (d := some 43) (v := undef) rfl rfl (by kernel_rfl) (by kernel_rfl) (by kernel_rfl) (by kernel_rfl) (fun _ _ _ h => h) (Or.inr ⟨by rfl, rfl⟩) F0 ?_
          simp only [Act.put, List.setIfInBounds_toArray, List.set_cons_zero, List.set_cons_succ]
          refine AnyT.takeD (i := 21) (d := some 44) (v := undef) rfl rfl (by kernel_rfl) (by kernel_rfl) (by kernel_rfl) (by kernel_rfl) (fun _ _ _ h => h) (Or.inr ⟨by rfl, rfl⟩) F0 ?_
          simp only [Act.put, List.setIfInBounds_toArray, List.set_cons_zero, List.set_cons_succ]
          refine AnyT.takeD (i := 22) (d := some 45) (v := undef) rfl rfl (by kernel_rfl) (by kernel_rfl) (by kernel_rfl) (by kernel_rfl) (fun _ _ _ h => h) (Or.inr ⟨by rfl, rfl⟩) F0 ?_
          simp only [Act.put, List.setIfInBounds_toArray, List.set_cons_zero, List.set_cons_succ]
          refine AnyT.takeD (i := 23) (d := some 46) (v := undef) rfl rfl (by kernel_rfl) (by kernel_rfl) (by kernel_rfl) (by kernel_rfl) (fun _ _ _ h => h) (Or.inr ⟨by rfl, rfl⟩) F0 ?_
          simp only [Act.put, List.setIfInBounds_toArray, List.set_cons_zero, List.set_cons_succ]
          refine AnyT.takeD (i := 24) (d := some 47) (v := undef) rfl rfl (by kernel_rfl) (by kernel_rfl) (by kernel_rfl) (by kernel_rfl) (fun _ _ _ h => h) (Or.inr ⟨by rfl, rfl⟩) F0 ?_
          simp only [Act.put, List.setIfInBounds_toArray, List.set_cons_zero, List.set_cons_succ]
          refine AnyT.takeD (i := 25) (d := some 48) (v := undef) rfl rfl (by kernel_rfl) (by kernel_rfl) (by kernel_rfl) (by kernel_rfl) (fun _ _ _ h => h) (Or.inr ⟨by rfl, rfl⟩) F0 ?_
          simp only [Act.put, List.setIfInBounds_toArray, List.set_cons_zero, List.set_cons_succ]
          refine AnyT.takeD (i := 26) (d := some 49) (v := undef) rfl rfl (by kernel_rfl) (by kernel_rfl) (by kernel_rfl) (by kernel_rfl) (fun _ _ _ h => h) (Or.inr ⟨by rfl, rfl⟩) F0 ?_
          simp only [Act.put, List.setIfInBounds_toArray, List.set_cons_zero, List.set_cons_succ]
          refine AnyT.takeD (i := 27) (d := some 50) (v := undef) rfl rfl (by kernel_rfl) (by kernel_rfl) (by kernel_rfl) (by kernel_rfl) (fun _ _ _ h => h) (Or.inr ⟨by rfl, rfl⟩) F0 ?_
          simp only [Act.put, List.setIfInBounds_toArray, List.set_cons_zero, List.set_cons_succ]
          refine AnyT.takeD (i := 28) (d := some 51) (v := undef) rfl rfl (by kernel_rfl) (by kernel_rfl) (by kernel_rfl) (by kernel_rfl) (fun _ _ _ h => h) (Or.inr ⟨by rfl, rfl⟩) F0 ?_
          simp only [Act.put, List.setIfInBounds_toArray, List.set_cons_zero, List.set_cons_succ]
          refine AnyT.takeD (i := 29) (d := some 52) (v := undef) rfl rfl (by kernel_rfl) (by kernel_rfl) (by kernel_rfl) (by kernel_rfl) (fun _ _ _ h => h) (Or.inr ⟨by rfl, rfl⟩) F0 ?_
          simp only [Act.put, List.setIfInBounds_toArray, List.set_cons_zero, List.set_cons_succ]
          refine AnyT.takeD (i := 30) (d := some 53) (v := undef) rfl rfl (by kernel_rfl) (by kernel_rfl) (by kernel_rfl) (by kernel_rfl) (fun _ _ _ h => h) (Or.inr ⟨by rfl, rfl⟩) F0 ?_
          simp only [Act.put, List.setIfInBounds_toArray, List.set_cons_zero, List.set_cons_succ]
          refine AnyT.takeD (i := 31) (d := some 54) (v := undef) rfl rfl (by kernel_rfl) (by kernel_rfl) (by kernel_rfl) (by kernel_rfl) (fun _ _ _ h => h) (Or.inr ⟨by rfl, rfl⟩) F0 ?_
          simp only [Act.put, List.setIfInBounds_toArray, List.set_cons_zero, List.set_cons_succ]
          refine AnyT.takeD (i := 32) (d := some 55) (v := .bool true) rfl rfl (by kernel_rfl) (by kernel_rfl) (by kernel_rfl) (by kernel_rfl) (fun _ _ _ h => h) (Or.inl ⟨by rfl, fun wz _ => by go_simp⟩) F0 ?_
          simp only [Act.put, List.setIfInBounds_toArray, List.set_cons_zero, List.set_cons_succ]
          -- TAKEN NA
          refine AnyT.done_ (by kernel_rfl) ?_ _
          have BR1 := Lib.hid (BR.out.trans (K0.out.mono BR.out.size))
          have BW1 := Lib.hid (B2.out.trans (BR1.out.mono B2.out.size))
          clear F0 HPS HE0 K0
          go_wp2_with fail
          go_ret2
          exact ⟨ret_r2 HF.out, BW1.out⟩
        · by_cases hx1 : x < (L : Int)
          · obtain ⟨X, rfl⟩ := Int.eq_ofNat_of_zero_le (show 0 ≤ x by omega)
            have hX : X < L := by omega
            have hx1' : ¬ (L : Int) ≤ (X : Int) := by omega
            by_cases hk0 : k = 0
            · have HP2 := Lib.hid (show ∃ p, chB l none cs = chB l p (cs.drop (k + 1)) ∧ (k + 1 = 0 → p = none) ∧ (0 < k + 1 → ∃ q : Nat, p = some q ∧ q < L ∧ cs.getD (k + 1 - 1) 0 = (q : Int)) by
                obtain ⟨p, hp, h0, _⟩ := P.out
                rw [h0 hk0, HD.out, chB_none (by rw [← HL.out]; exact hX)] at hp
                exact ⟨_, hp, (fun h => by omega), fun _ => ⟨X, rfl, hX, HX.out.symm⟩⟩)
              have hkz : ¬ 0 < k := by omega
              have hkzi : ¬ (0 : Int) < (k : Int) := by omega
              clear P HD hk0
              have ltk := lt_of_cell ck
              have HPS := Lib.hid (fun (Y : World) (hY : Below wr.heap.size wr Y) => (show Y.cell? ⟨b, 0, none⟩ = some (.slice A L c) ∧ Y.cell? ⟨b, 1, none⟩ = some (.int .i64 wt) ∧ Y.cell? (ad.add k) = some (.int .i64 (X : Int)) from
                ⟨(hY.cell (p := ⟨b, 0, none⟩) jl).trans j0, (hY.cell (p := ⟨b, 1, none⟩) jl).trans j1, (hY.cell ltk).trans ck⟩))
              clear ltk
              go_upto_region 7 with fail
              clear ck j0 j1
              obtain ⟨q0, e0⟩ : ∃ x, x = wr.drew := ⟨_, rfl⟩
              have K0 := Lib.hid (show Below wr.heap.size wr q0 from by rw [e0]; exact (Below.refl _ _).drew)
              have F0 := HPS.out q0 K0.out
              have HE0 := Lib.hid e0
              clear e0
              refine AnyT.begin_at tlN (fun Y => Y.cell? ⟨b, 0, none⟩ = some (.slice A L c) ∧ Y.cell? ⟨b, 1, none⟩ = some (.int .i64 wt) ∧ Y.cell? (ad.add k) = some (.int .i64 (X : Int))) (by kernel_rfl) HE0.out F0 ?_
              clear F0
              intro F0
-- TAKES NC
              refine AnyT.takeD (i := 0) (d := some 23) (v := .slice (some ad) n cc) rfl rfl (by kernel_rfl) (by kernel_rfl) (by kernel_rfl) (by kernel_rfl) (fun _ _ _ h => h) (Or.inl ⟨by rfl, fun wz _ => by go_simp⟩) F0 ?_
              simp only [Act.put, List.setIfInBounds_toArray, List.set_cons_zero, List.set_cons_succ]
              refine AnyT.takeD (i := 1) (d := some 24) (v := .int .i64 (k : Int)) rfl rfl (by kernel_rfl) (by kernel_rfl) (by kernel_rfl) (by kernel_rfl) (fun _ _ _ h => h) (Or.inl ⟨by rfl, fun wz _ => by go_simp⟩) F0 ?_
              simp only [Act.put, List.setIfInBounds_toArray, List.set_cons_zero, List.set_cons_succ]
              refine AnyT.takeD (i := 2) (d := some 25) (v := .pointer (some (ad.add k))) rfl rfl (by kernel_rfl) (by kernel_rfl) (by kernel_rfl) (by kernel_rfl) (fun _ _ _ h => h) (Or.inl ⟨by rfl, fun wz _ => by go_simp⟩) F0 ?_
              simp only [Act.put, List.setIfInBounds_toArray, List.set_cons_zero, List.set_cons_succ]
              refine AnyT.takeD (i := 3) (d := some 26) (v := .int .i64 (X : Int)) rfl rfl (by kernel_rfl) (by kernel_rfl) (by kernel_rfl) (by kernel_rfl) (fun _ _ _ h => h) (Or.inl ⟨by rfl, fun wz hz => by obtain ⟨z0, z1, z2⟩ := hz; go_simp⟩) F0 ?_
              simp only [Act.put, List.setIfInBounds_toArray, List.set_cons_zero, List.set_cons_succ]
              refine AnyT.takeD (i := 4) (d := some 27) (v := .bool false) rfl rfl (by kernel_rfl) (by kernel_rfl) (by kernel_rfl) (by kernel_rfl) (fun _ _ _ h => h) (Or.inl ⟨by rfl, fun wz _ => by go_simp⟩) F0 ?_
              simp only [Act.put, List.setIfInBounds_toArray, List.set_cons_zero, List.set_cons_succ]
              refine AnyT.takeD (i := 5) (d := some 28) (v := .bool false) rfl rfl (by kernel_rfl) (by kernel_rfl) (by kernel_rfl) (by kernel_rfl) (fun _ _ _ h => h) (Or.inl ⟨by rfl, fun wz _ => by go_simp⟩) F0 ?_
              simp only [Act.put, List.setIfInBounds_toArray, List.set_cons_zero, List.set_cons_succ]
              refine AnyT.takeD (i := 6) (d := some 29) (v := .slice (some ad) n cc) rfl rfl (by kernel_rfl) (by kernel_rfl) (by kernel_rfl) (by kernel_rfl) (fun _ _ _ h => h) (Or.inl ⟨by rfl, fun wz _ => by go_simp⟩) F0 ?_
              simp only [Act.put, List.setIfInBounds_toArray, List.set_cons_zero, List.set_cons_succ]
              refine AnyT.takeD (i := 7) (d := some 30) (v := .int .i64 (k : Int)) rfl rfl (by kernel_rfl) (by kernel_rfl) (by kernel_rfl) (by kernel_rfl) (fun _ _ _ h => h) (Or.inl ⟨by rfl, fun wz _ => by go_simp⟩) F0 ?_
              simp only [Act.put, List.setIfInBounds_toArray, List.set_cons_zero, List.set_cons_succ]
              refine AnyT.takeD (i := 8) (d := some 31) (v := .pointer (some (ad.add k))) rfl rfl (by kernel_rfl) (by kernel_rfl) (by kernel_rfl) (by kernel_rfl) (fun _ _ _ h => h) (Or.inl ⟨by rfl, fun wz _ => by go_simp⟩) F0 ?_
              simp only [Act.put, List.setIfInBounds_toArray, List.set_cons_zero, List.set_cons_succ]
              refine AnyT.takeD (i := 9) (d := some 32) (v := .int .i64 (X : Int)) rfl rfl (by kernel_rfl) (by kernel_rfl) (by kernel_rfl) (by kernel_rfl) (fun _ _ _ h => h) (Or.inl ⟨by rfl, fun wz hz => by obtain ⟨z0, z1, z2⟩ := hz; go_simp⟩) F0 ?_
              simp only [Act.put, List.setIfInBounds_toArray, List.set_cons_zero, List.set_cons_succ]
              refine AnyT.takeD (i := 10) (d := some 33) (v := .pointer (some ⟨b, 0, none⟩)) rfl rfl (by kernel_rfl) (by kernel_rfl) (by kernel_rfl) (by kernel_rfl) (fun _ _ _ h => h) (Or.inl ⟨by rfl, fun wz _ => by go_simp⟩) F0 ?_
              simp only [Act.put, List.setIfInBounds_toArray, List.set_cons_zero, List.set_cons_succ]
              refine AnyT.takeD (i := 11) (d := some 34) (v := .slice A L c) rfl rfl (by kernel_rfl) (by kernel_rfl) (by kernel_rfl) (by kernel_rfl) (fun _ _ _ h => h) (Or.inl ⟨by rfl, fun wz hz => by obtain ⟨z0, z1, z2⟩ := hz; go_simp⟩) F0 ?_
              simp only [Act.put, List.setIfInBounds_toArray, List.set_cons_zero, List.set_cons_succ]
              refine AnyT.takeD (i := 12) (d := some 35) (v := .int .i64 (L : Int)) rfl rfl (by kernel_rfl) (by kernel_rfl) (by kernel_rfl) (by kernel_rfl) (fun _ _ _ h => h) (Or.inl ⟨by rfl, fun wz _ => by go_simp⟩) F0 ?_
              simp only [Act.put, List.setIfInBounds_toArray, List.set_cons_zero, List.set_cons_succ]
              refine AnyT.takeD (i := 13) (d := some 36) (v := .bool false) rfl rfl (by kernel_rfl) (by kernel_rfl) (by kernel_rfl) (by kernel_rfl) (fun _ _ _ h => h) (Or.inl ⟨by rfl, fun wz _ => by go_simp⟩) F0 ?_
              simp only [Act.put, List.setIfInBounds_toArray, List.set_cons_zero, List.set_cons_succ]
              refine AnyT.takeD (i := 14) (d := some 37) (v := .bool false) rfl rfl (by kernel_rfl) (by kernel_rfl) (by kernel_rfl) (by kernel_rfl) (fun _ _ _ h => h) (Or.inl ⟨by rfl, fun wz _ => by go_simp⟩) F0 ?_
              simp only [Act.put, List.setIfInBounds_toArray, List.set_cons_zero, List.set_cons_succ]
              refine AnyT.takeD (i := 15) (d := some 38) (v := .bool false) rfl rfl (by kernel_rfl) (by kernel_rfl) (by kernel_rfl) (by kernel_rfl) (fun _ _ _ h => h) (Or.inl ⟨by rfl, fun wz _ => by go_simp⟩) F0 ?_
              simp only [Act.put, List.setIfInBounds_toArray, List.set_cons_zero, List.set_cons_succ]
              refine AnyT.takeD (i := 16) (d := some 39) (v := .int .i64 (k : Int)) rfl rfl (by kernel_rfl) (by kernel_rfl) (by kernel_rfl) (by kernel_rfl) (fun _ _ _ h => h) (Or.inl ⟨by rfl, fun wz _ => by go_simp⟩) F0 ?_
              simp only [Act.put, List.setIfInBounds_toArray, List.set_cons_zero, List.set_cons_succ]
              refine AnyT.takeD (i := 17) (d := some 40) (v := .bool false) rfl rfl (by kernel_rfl) (by kernel_rfl) (by kernel_rfl) (by kernel_rfl) (fun _ _ _ h => h) (Or.inl ⟨by rfl, fun wz _ => by go_simp⟩) F0 ?_
              simp only [Act.put, List.setIfInBounds_toArray, List.set_cons_zero, List.set_cons_succ]
              refine AnyT.takeD (i := 18) (d := some 41) (v := .bool false) rfl rfl (by kernel_rfl) (by kernel_rfl) (by kernel_rfl) (by kernel_rfl) (fun _ _ _ h => h) (Or.inl ⟨by rfl, fun wz _ => by go_simp⟩) F0 ?_
              simp only [Act.put, List.setIfInBounds_toArray, List.set_cons_zero, List.set_cons_succ]
              refine AnyT.takeD (i := 19) (d := some 42) (v := undef) rfl rfl (by kernel_rfl) (by kernel_rfl) (by kernel_rfl) (by kernel_rfl) (fun _ _ _ h => h) (Or.inr ⟨by rfl, rfl⟩) F0 ?_
              simp only [Act.put, List.setIfInBounds_toArray, List.set_cons_zero, List.set_cons_succ]
              refine AnyT.takeD (i := 20) (d := some 43) (v := undef) rfl rfl (by kernel_rfl) (by kernel_rfl) (by kernel_rfl) (by kernel_rfl) (fun _ _ _ h => h) (Or.inr ⟨by rfl, rfl⟩) F0 ?_
              simp only [Act.put, List.setIfInBounds_toArray, List.set_cons_zero, List.set_cons_succ]
              refine AnyT.takeD (i := 21) (d := some 44) (v := undef) rfl rfl (by kernel_rfl) (by kernel_rfl) (by kernel_rfl) (by kernel_rfl) (fun _ _ _ h => h) (Or.inr ⟨by rfl, rfl⟩) F0 ?_
              simp only [Act.put, List.setIfInBounds_toArray, List.set_cons_zero, List.set_cons_succ]
              refine AnyT.takeD (i := 22) (d := some 45) (v := undef) rfl rfl (by kernel_rfl) (by kernel_rfl) (by kernel_rfl) (by kernel_rfl) (fun _ _ _ h => h) (Or.inr ⟨by rfl, rfl⟩) F0 ?_
              simp only [Act.put, List.setIfInBounds_toArray, List.set_cons_zero, List.set_cons_succ]
              refine AnyT.takeD (i := 23) (d := some 46) (v := undef) rfl rfl (by kernel_rfl) (by kernel_rfl) (by kernel_rfl) (by kernel_rfl) (fun _ _ _ h => h) (Or.inr ⟨by rfl, rfl⟩) F0 ?_
              simp only [Act.put, List.setIfInBounds_toArray, List.set_cons_zero, List.set_cons_succ]
              refine AnyT.takeD (i := 24) (d := some 47) (v := undef) rfl rfl (by kernel_rfl) (by kernel_rfl) (by kernel_rfl) (by kernel_rfl) (fun _ _ _ h => h) (Or.inr ⟨by rfl, rfl⟩) F0 ?_
              simp only [Act.put, List.setIfInBounds_toArray, List.set_cons_zero, List.set_cons_succ]
              refine AnyT.takeD (i := 25) (d := some 48) (v := undef) rfl rfl (by kernel_rfl) (by kernel_rfl) (by kernel_rfl) (by kernel_rfl) (fun _ _ _ h => h) (Or.inr ⟨by rfl, rfl⟩) F0 ?_
              simp only [Act.put, List.setIfInBounds_toArray, List.set_cons_zero, List.set_cons_succ]
              refine AnyT.takeD (i := 26) (d := some 49) (v := undef) rfl rfl (by kernel_rfl) (by kernel_rfl) (by kernel_rfl) (by kernel_rfl) (fun _ _ _ h => h) (Or.inr ⟨by rfl, rfl⟩) F0 ?_
              simp only [Act.put, List.setIfInBounds_toArray, List.set_cons_zero, List.set_cons_succ]
              refine AnyT.takeD (i := 27) (d := some 50) (v := undef) rfl rfl (by kernel_rfl) (by kernel_rfl) (by kernel_rfl) (by kernel_rfl) (fun _ _ _ h => h) (Or.inr ⟨by rfl, rfl⟩) F0 ?_
              simp only [Act.put, List.setIfInBounds_toArray, List.set_cons_zero, List.set_cons_succ]
              refine AnyT.takeD (i := 28) (d := some 51) (v := undef) rfl rfl (by kernel_rfl) (by kernel_rfl) (by kernel_rfl) (by kernel_rfl) (fun _ _ _ h => h) (Or.inr ⟨by rfl, rfl⟩) F0 ?_
              simp only [Act.put, List.setIfInBounds_toArray, List.set_cons_zero, List.set_cons_succ]
              refine AnyT.takeD (i := 29) (d := some 52) (v := undef) rfl rfl (by kernel_rfl) (by kernel_rfl) (by kernel_rfl) (by kernel_rfl) (fun _ _ _ h => h) (Or.inr ⟨by rfl, rfl⟩) F0 ?_
              simp only [Act.put, List.setIfInBounds_toArray, List.set_cons_zero, List.set_cons_succ]
              refine AnyT.takeD (i := 30) (d := some 53) (v := undef) rfl rfl (by kernel_rfl) (by kernel_rfl) (by kernel_rfl) (by kernel_rfl) (fun _ _ _ h => h) (Or.inr ⟨by rfl, rfl⟩) F0 ?_
              simp only [Act.put, List.setIfInBounds_toArray, List.set_cons_zero, List.set_cons_succ]
              refine AnyT.takeD (i := 31) (d := some 54) (v := .bool false) rfl rfl (by kernel_rfl) (by kernel_rfl) (by kernel_rfl) (by kernel_rfl) (fun _ _ _ h => h) (Or.inl ⟨by rfl, fun wz _ => by go_simp⟩) F0 ?_
              simp only [Act.put, List.setIfInBounds_toArray, List.set_cons_zero, List.set_cons_succ]
              refine AnyT.takeD (i := 32) (d := some 55) (v := .bool false) rfl rfl (by kernel_rfl) (by kernel_rfl) (by kernel_rfl) (by kernel_rfl) (fun _ _ _ h => h) (Or.inl ⟨by rfl, fun wz _ => by go_simp⟩) F0 ?_
              simp only [Act.put, List.setIfInBounds_toArray, List.set_cons_zero, List.set_cons_succ]
              -- TAKEN NC
              refine AnyT.done_ (by kernel_rfl) ?_ _
              have BR1 := Lib.hid (BR.out.trans (K0.out.mono BR.out.size))
              have BW1 := Lib.hid (B2.out.trans (BR1.out.mono B2.out.size))
              clear F0 HPS HE0 K0
              go_wp2_with fail
              go_roundw
              case rel => exact ⟨k + 1, by omega, by go_num, HP2, BR1⟩
              case measure => simp [intOf]; omega
            · have hkp : 0 < k := by omega
              obtain ⟨p, hp, _, h1⟩ := P.out
              obtain ⟨q, rfl, hq, hcq⟩ := h1 hkp
              rw [HD.out, chB_some (by rw [← HL.out]; exact hX)] at hp
              have HP := Lib.hid hp
              obtain ⟨k1, hk1⟩ : ∃ k1, k1 = k - 1 := ⟨_, rfl⟩
              obtain ⟨ad', e', _, cq⟩ := (HC.out.below BW.out) k1 (by rw [← HN.out]; omega)
              obtain rfl : ad = ad' := by injection e'
              rw [← hk1] at hcq
              rw [hcq] at cq
              have HR := Lib.hid (fun W kb => HKI.out q X hq hX W kb)
              obtain ⟨r, hr⟩ : ∃ r, r = rel l q X := ⟨_, rfl⟩
              rw [← hr] at HR
              have HRR := Lib.hid hr
              have ltq := lt_of_cell cq
              have ltk := lt_of_cell ck
              have HPS := Lib.hid (fun (Y : World) (hY : Below wr.heap.size wr Y) => (show Y.cell? ⟨b, 0, none⟩ = some (.slice A L c) ∧ Y.cell? ⟨b, 1, none⟩ = some (.int .i64 wt) ∧ Y.cell? (ad.add k1) = some (.int .i64 (q : Int)) ∧ Y.cell? (ad.add k) = some (.int .i64 (X : Int)) from
                ⟨(hY.cell (p := ⟨b, 0, none⟩) jl).trans j0, (hY.cell (p := ⟨b, 1, none⟩) jl).trans j1, (hY.cell ltq).trans cq, (hY.cell ltk).trans ck⟩))
              have hki0 : (0 : Int) < (k : Int) := by omega
              have hk1e : (k : Int) - 1 = (k1 : Int) := by omega
              have hk1n : (k1 : Int) < (n : Int) := by omega
              have hwk : IntKind.i64.wrap (k1 : Int) = (k1 : Int) := IntWalk.i64_in _ (by omega)
              clear P HD hp h1 e' hcq hr ltq ltk cq hk1
              clear hk0
              go_upto_region 7 with fail
              clear ck j0 j1
              obtain ⟨q0, e0⟩ : ∃ x, x = wr.drew := ⟨_, rfl⟩
              have K0 := Lib.hid (show Below wr.heap.size wr q0 from by rw [e0]; exact (Below.refl _ _).drew)
              have F0 := HPS.out q0 K0.out
              have HE0 := Lib.hid e0
              clear e0
              refine AnyT.begin_at tlN (fun Y => Y.cell? ⟨b, 0, none⟩ = some (.slice A L c) ∧ Y.cell? ⟨b, 1, none⟩ = some (.int .i64 wt) ∧ Y.cell? (ad.add k1) = some (.int .i64 (q : Int)) ∧ Y.cell? (ad.add k) = some (.int .i64 (X : Int))) (by kernel_rfl) HE0.out F0 ?_
              clear F0
              intro F0
-- TAKES N1
              refine AnyT.takeD (i := 0) (d := some 23) (v := .slice (some ad) n cc) rfl rfl (by kernel_rfl) (by kernel_rfl) (by kernel_rfl) (by kernel_rfl) (fun _ _ _ h => h) (Or.inl ⟨by rfl, fun wz _ => by go_simp⟩) F0 ?_
              simp only [Act.put, List.setIfInBounds_toArray, List.set_cons_zero, List.set_cons_succ]
              refine AnyT.takeD (i := 1) (d := some 24) (v := .int .i64 (k : Int)) rfl rfl (by kernel_rfl) (by kernel_rfl) (by kernel_rfl) (by kernel_rfl) (fun _ _ _ h => h) (Or.inl ⟨by rfl, fun wz _ => by go_simp⟩) F0 ?_
              simp only [Act.put, List.setIfInBounds_toArray, List.set_cons_zero, List.set_cons_succ]
              refine AnyT.takeD (i := 2) (d := some 25) (v := .pointer (some (ad.add k))) rfl rfl (by kernel_rfl) (by kernel_rfl) (by kernel_rfl) (by kernel_rfl) (fun _ _ _ h => h) (Or.inl ⟨by rfl, fun wz _ => by go_simp⟩) F0 ?_
              simp only [Act.put, List.setIfInBounds_toArray, List.set_cons_zero, List.set_cons_succ]
              refine AnyT.takeD (i := 3) (d := some 26) (v := .int .i64 (X : Int)) rfl rfl (by kernel_rfl) (by kernel_rfl) (by kernel_rfl) (by kernel_rfl) (fun _ _ _ h => h) (Or.inl ⟨by rfl, fun wz hz => by obtain ⟨z0, z1, z2, z3⟩ := hz; go_simp⟩) F0 ?_
              simp only [Act.put, List.setIfInBounds_toArray, List.set_cons_zero, List.set_cons_succ]
              refine AnyT.takeD (i := 4) (d := some 27) (v := .bool false) rfl rfl (by kernel_rfl) (by kernel_rfl) (by kernel_rfl) (by kernel_rfl) (fun _ _ _ h => h) (Or.inl ⟨by rfl, fun wz _ => by go_simp⟩) F0 ?_
              simp only [Act.put, List.setIfInBounds_toArray, List.set_cons_zero, List.set_cons_succ]
              refine AnyT.takeD (i := 5) (d := some 28) (v := .bool false) rfl rfl (by kernel_rfl) (by kernel_rfl) (by kernel_rfl) (by kernel_rfl) (fun _ _ _ h => h) (Or.inl ⟨by rfl, fun wz _ => by go_simp⟩) F0 ?_
              simp only [Act.put, List.setIfInBounds_toArray, List.set_cons_zero, List.set_cons_succ]
              refine AnyT.takeD (i := 6) (d := some 29) (v := .slice (some ad) n cc) rfl rfl (by kernel_rfl) (by kernel_rfl) (by kernel_rfl) (by kernel_rfl) (fun _ _ _ h => h) (Or.inl ⟨by rfl, fun wz _ => by go_simp⟩) F0 ?_
              simp only [Act.put, List.setIfInBounds_toArray, List.set_cons_zero, List.set_cons_succ]
              refine AnyT.takeD (i := 7) (d := some 30) (v := .int .i64 (k : Int)) rfl rfl (by kernel_rfl) (by kernel_rfl) (by kernel_rfl) (by kernel_rfl) (fun _ _ _ h => h) (Or.inl ⟨by rfl, fun wz _ => by go_simp⟩) F0 ?_
              simp only [Act.put, List.setIfInBounds_toArray, List.set_cons_zero, List.set_cons_succ]
              refine AnyT.takeD (i := 8) (d := some 31) (v := .pointer (some (ad.add k))) rfl rfl (by kernel_rfl) (by kernel_rfl) (by kernel_rfl) (by kernel_rfl) (fun _ _ _ h => h) (Or.inl ⟨by rfl, fun wz _ => by go_simp⟩) F0 ?_
              simp only [Act.put, List.setIfInBounds_toArray, List.set_cons_zero, List.set_cons_succ]
              refine AnyT.takeD (i := 9) (d := some 32) (v := .int .i64 (X : Int)) rfl rfl (by kernel_rfl) (by kernel_rfl) (by kernel_rfl) (by kernel_rfl) (fun _ _ _ h => h) (Or.inl ⟨by rfl, fun wz hz => by obtain ⟨z0, z1, z2, z3⟩ := hz; go_simp⟩) F0 ?_
              simp only [Act.put, List.setIfInBounds_toArray, List.set_cons_zero, List.set_cons_succ]
              refine AnyT.takeD (i := 10) (d := some 33) (v := .pointer (some ⟨b, 0, none⟩)) rfl rfl (by kernel_rfl) (by kernel_rfl) (by kernel_rfl) (by kernel_rfl) (fun _ _ _ h => h) (Or.inl ⟨by rfl, fun wz _ => by go_simp⟩) F0 ?_
              simp only [Act.put, List.setIfInBounds_toArray, List.set_cons_zero, List.set_cons_succ]
              refine AnyT.takeD (i := 11) (d := some 34) (v := .slice A L c) rfl rfl (by kernel_rfl) (by kernel_rfl) (by kernel_rfl) (by kernel_rfl) (fun _ _ _ h => h) (Or.inl ⟨by rfl, fun wz hz => by obtain ⟨z0, z1, z2, z3⟩ := hz; go_simp⟩) F0 ?_
              simp only [Act.put, List.setIfInBounds_toArray, List.set_cons_zero, List.set_cons_succ]
              refine AnyT.takeD (i := 12) (d := some 35) (v := .int .i64 (L : Int)) rfl rfl (by kernel_rfl) (by kernel_rfl) (by kernel_rfl) (by kernel_rfl) (fun _ _ _ h => h) (Or.inl ⟨by rfl, fun wz _ => by go_simp⟩) F0 ?_
              simp only [Act.put, List.setIfInBounds_toArray, List.set_cons_zero, List.set_cons_succ]
              refine AnyT.takeD (i := 13) (d := some 36) (v := .bool false) rfl rfl (by kernel_rfl) (by kernel_rfl) (by kernel_rfl) (by kernel_rfl) (fun _ _ _ h => h) (Or.inl ⟨by rfl, fun wz _ => by go_simp⟩) F0 ?_
              simp only [Act.put, List.setIfInBounds_toArray, List.set_cons_zero, List.set_cons_succ]
              refine AnyT.takeD (i := 14) (d := some 37) (v := .bool false) rfl rfl (by kernel_rfl) (by kernel_rfl) (by kernel_rfl) (by kernel_rfl) (fun _ _ _ h => h) (Or.inl ⟨by rfl, fun wz _ => by go_simp⟩) F0 ?_
              simp only [Act.put, List.setIfInBounds_toArray, List.set_cons_zero, List.set_cons_succ]
              refine AnyT.takeD (i := 15) (d := some 38) (v := .bool false) rfl rfl (by kernel_rfl) (by kernel_rfl) (by kernel_rfl) (by kernel_rfl) (fun _ _ _ h => h) (Or.inl ⟨by rfl, fun wz _ => by go_simp⟩) F0 ?_
              simp only [Act.put, List.setIfInBounds_toArray, List.set_cons_zero, List.set_cons_succ]
              refine AnyT.takeD (i := 16) (d := some 39) (v := .int .i64 (k : Int)) rfl rfl (by kernel_rfl) (by kernel_rfl) (by kernel_rfl) (by kernel_rfl) (fun _ _ _ h => h) (Or.inl ⟨by rfl, fun wz _ => by go_simp⟩) F0 ?_
              simp only [Act.put, List.setIfInBounds_toArray, List.set_cons_zero, List.set_cons_succ]
              refine AnyT.takeD (i := 17) (d := some 40) (v := .bool true) rfl rfl (by kernel_rfl) (by kernel_rfl) (by kernel_rfl) (by kernel_rfl) (fun _ _ _ h => h) (Or.inl ⟨by rfl, fun wz _ => by go_simp⟩) F0 ?_
              simp only [Act.put, List.setIfInBounds_toArray, List.set_cons_zero, List.set_cons_succ]
              refine AnyT.takeD (i := 18) (d := some 41) (v := .bool true) rfl rfl (by kernel_rfl) (by kernel_rfl) (by kernel_rfl) (by kernel_rfl) (fun _ _ _ h => h) (Or.inl ⟨by rfl, fun wz _ => by go_simp⟩) F0 ?_
              simp only [Act.put, List.setIfInBounds_toArray, List.set_cons_zero, List.set_cons_succ]
              refine AnyT.takeD (i := 19) (d := some 42) (v := jv A L c wt) rfl rfl (by kernel_rfl) (by kernel_rfl) (by kernel_rfl) (by kernel_rfl) (fun _ _ _ h => h) (Or.inl ⟨by rfl, fun wz hz => by obtain ⟨z0, z1, z2, z3⟩ := hz; go_simp⟩) F0 ?_
              simp only [Act.put, List.setIfInBounds_toArray, List.set_cons_zero, List.set_cons_succ]
              refine AnyT.takeD (i := 20) (d := some 43) (v := .slice (some ad) n cc) rfl rfl (by kernel_rfl) (by kernel_rfl) (by kernel_rfl) (by kernel_rfl) (fun _ _ _ h => h) (Or.inl ⟨by rfl, fun wz _ => by go_simp⟩) F0 ?_
              simp only [Act.put, List.setIfInBounds_toArray, List.set_cons_zero, List.set_cons_succ]
              refine AnyT.takeD (i := 21) (d := some 44) (v := .int .i64 (k : Int)) rfl rfl (by kernel_rfl) (by kernel_rfl) (by kernel_rfl) (by kernel_rfl) (fun _ _ _ h => h) (Or.inl ⟨by rfl, fun wz _ => by go_simp⟩) F0 ?_
              simp only [Act.put, List.setIfInBounds_toArray, List.set_cons_zero, List.set_cons_succ]
              refine AnyT.takeD (i := 22) (d := some 45) (v := .int .i64 (k1 : Int)) rfl rfl (by kernel_rfl) (by kernel_rfl) (by kernel_rfl) (by kernel_rfl) (fun _ _ _ h => h) (Or.inl ⟨by rfl, fun wz _ => by go_simp⟩) F0 ?_
              simp only [Act.put, List.setIfInBounds_toArray, List.set_cons_zero, List.set_cons_succ]
              refine AnyT.takeD (i := 23) (d := some 46) (v := .pointer (some (ad.add k1))) rfl rfl (by kernel_rfl) (by kernel_rfl) (by kernel_rfl) (by kernel_rfl) (fun _ _ _ h => h) (Or.inl ⟨by rfl, fun wz _ => by go_simp⟩) F0 ?_
              simp only [Act.put, List.setIfInBounds_toArray, List.set_cons_zero, List.set_cons_succ]
              refine AnyT.takeD (i := 24) (d := some 47) (v := .int .i64 (q : Int)) rfl rfl (by kernel_rfl) (by kernel_rfl) (by kernel_rfl) (by kernel_rfl) (fun _ _ _ h => h) (Or.inl ⟨by rfl, fun wz hz => by obtain ⟨z0, z1, z2, z3⟩ := hz; go_simp⟩) F0 ?_
              simp only [Act.put, List.setIfInBounds_toArray, List.set_cons_zero, List.set_cons_succ]
              refine AnyT.takeD (i := 25) (d := some 48) (v := .slice (some ad) n cc) rfl rfl (by kernel_rfl) (by kernel_rfl) (by kernel_rfl) (by kernel_rfl) (fun _ _ _ h => h) (Or.inl ⟨by rfl, fun wz _ => by go_simp⟩) F0 ?_
              simp only [Act.put, List.setIfInBounds_toArray, List.set_cons_zero, List.set_cons_succ]
              refine AnyT.takeD (i := 26) (d := some 49) (v := .int .i64 (k : Int)) rfl rfl (by kernel_rfl) (by kernel_rfl) (by kernel_rfl) (by kernel_rfl) (fun _ _ _ h => h) (Or.inl ⟨by rfl, fun wz _ => by go_simp⟩) F0 ?_
              simp only [Act.put, List.setIfInBounds_toArray, List.set_cons_zero, List.set_cons_succ]
              refine AnyT.takeD (i := 27) (d := some 50) (v := .pointer (some (ad.add k))) rfl rfl (by kernel_rfl) (by kernel_rfl) (by kernel_rfl) (by kernel_rfl) (fun _ _ _ h => h) (Or.inl ⟨by rfl, fun wz _ => by go_simp⟩) F0 ?_
              simp only [Act.put, List.setIfInBounds_toArray, List.set_cons_zero, List.set_cons_succ]
              refine AnyT.takeD (i := 28) (d := some 51) (v := .int .i64 (X : Int)) rfl rfl (by kernel_rfl) (by kernel_rfl) (by kernel_rfl) (by kernel_rfl) (fun _ _ _ h => h) (Or.inl ⟨by rfl, fun wz hz => by obtain ⟨z0, z1, z2, z3⟩ := hz; go_simp⟩) F0 ?_
              simp only [Act.put, List.setIfInBounds_toArray, List.set_cons_zero, List.set_cons_succ]
              -- TAKEN N1
              refine AnyT.branch (rs := [29]) (by kernel_rfl) (by simp) ?_
              refine all_cons (?_) all_nil
              refine AnyT.enterG (i := 29) (d := some 52) (f := 28) (args := #[jv A L c wt, .int .i64 (q : Int), .int .i64 (X : Int)]) rfl (by rfl) rfl (by go_simp) (HR.out q0 (HI.out.below (BW.out.trans (K0.out.mono BW.out.size)))) ?_
              rintro e q1 ⟨rfl, hB1⟩
              have K1 := Lib.hid (K0.out.trans (hB1.mono K0.out.size))
              have F1 := HPS.out q1 K1.out
              refine ⟨_, rfl, fun _ => F1, ?_⟩
              clear hB1 F0
              simp only [Act.put, List.setIfInBounds_toArray, List.set_cons_zero, List.set_cons_succ]
              have BR1 := Lib.hid (BR.out.trans (K1.out.mono BR.out.size))
              have BW1 := Lib.hid (B2.out.trans (BR1.out.mono B2.out.size))
              by_cases hr0 : r = 0
              · have HF := Lib.hid (show boundE l wt cs = (0, 1) by
                  have hp := HP.out
                  rw [if_pos (by rw [← HRR.out]; exact hr0)] at hp
                  rw [HE.out, hp, if_neg (by decide)])
                subst hr0
-- TAKES N2
                refine AnyT.takeD (i := 30) (d := some 53) (v := .bool true) rfl rfl (by kernel_rfl) (by kernel_rfl) (by kernel_rfl) (by kernel_rfl) (fun _ _ _ h => h) (Or.inl ⟨by rfl, fun wz _ => by go_simp⟩) F1 ?_
                simp only [Act.put, List.setIfInBounds_toArray, List.set_cons_zero, List.set_cons_succ]
                refine AnyT.takeD (i := 31) (d := some 54) (v := .bool true) rfl rfl (by kernel_rfl) (by kernel_rfl) (by kernel_rfl) (by kernel_rfl) (fun _ _ _ h => h) (Or.inl ⟨by rfl, fun wz _ => by go_simp⟩) F1 ?_
                simp only [Act.put, List.setIfInBounds_toArray, List.set_cons_zero, List.set_cons_succ]
                refine AnyT.takeD (i := 32) (d := some 55) (v := .bool true) rfl rfl (by kernel_rfl) (by kernel_rfl) (by kernel_rfl) (by kernel_rfl) (fun _ _ _ h => h) (Or.inl ⟨by rfl, fun wz _ => by go_simp⟩) F1 ?_
                simp only [Act.put, List.setIfInBounds_toArray, List.set_cons_zero, List.set_cons_succ]
                -- TAKEN N2
                refine AnyT.done_ (by kernel_rfl) ?_ _
                clear F1 HPS HE0 K0 K1 HR
                go_wp2_with fail
                go_ret2
                exact ⟨ret_r2 HF.out, BW1.out⟩
              · have hrz : (r == 0) = false := beq_eq_false_iff_ne.2 hr0
                have HP2 := Lib.hid (show ∃ p, chB l none cs = chB l p (cs.drop (k + 1)) ∧ (k + 1 = 0 → p = none) ∧ (0 < k + 1 → ∃ q : Nat, p = some q ∧ q < L ∧ cs.getD (k + 1 - 1) 0 = (q : Int)) from by
                  have hp := HP.out
                  rw [if_neg (by rw [← HRR.out]; exact hr0)] at hp
                  exact ⟨_, hp, (fun h => by omega), fun _ => ⟨X, rfl, hX, HX.out.symm⟩⟩)
-- TAKES N3
                refine AnyT.takeD (i := 30) (d := some 53) (v := .bool false) rfl rfl (by kernel_rfl) (by kernel_rfl) (by kernel_rfl) (by kernel_rfl) (fun _ _ _ h => h) (Or.inl ⟨by rfl, fun wz _ => by go_simp⟩) F1 ?_
                simp only [Act.put, List.setIfInBounds_toArray, List.set_cons_zero, List.set_cons_succ]
                refine AnyT.takeD (i := 31) (d := some 54) (v := .bool false) rfl rfl (by kernel_rfl) (by kernel_rfl) (by kernel_rfl) (by kernel_rfl) (fun _ _ _ h => h) (Or.inl ⟨by rfl, fun wz _ => by go_simp⟩) F1 ?_
                simp only [Act.put, List.setIfInBounds_toArray, List.set_cons_zero, List.set_cons_succ]
                refine AnyT.takeD (i := 32) (d := some 55) (v := .bool false) rfl rfl (by kernel_rfl) (by kernel_rfl) (by kernel_rfl) (by kernel_rfl) (fun _ _ _ h => h) (Or.inl ⟨by rfl, fun wz _ => by go_simp⟩) F1 ?_
                simp only [Act.put, List.setIfInBounds_toArray, List.set_cons_zero, List.set_cons_succ]
                -- TAKEN N3
                refine AnyT.done_ (by kernel_rfl) ?_ _
                clear F1 HPS HE0 K0 K1 HR hrz hr0
                go_wp2_with fail
                go_roundw
                case rel => exact ⟨k + 1, by omega, by go_num, HP2, BR1⟩
                case measure => simp [intOf]; omega
          · obtain ⟨p, hp, _⟩ := P.out
            have HF := Lib.hid (show boundE l wt cs = (0, 1) by rw [HE.out, hp, HD.out, chB_bad (by rw [← HL.out]; omega), if_neg (by decide)])
            have hx2 : (L : Int) ≤ x := by omega
            clear hp
            have ltk := lt_of_cell ck
            have HPS := Lib.hid (fun (Y : World) (hY : Below wr.heap.size wr Y) => (show Y.cell? ⟨b, 0, none⟩ = some (.slice A L c) ∧ Y.cell? ⟨b, 1, none⟩ = some (.int .i64 wt) ∧ Y.cell? (ad.add k) = some (.int .i64 x) from
              ⟨(hY.cell (p := ⟨b, 0, none⟩) jl).trans j0, (hY.cell (p := ⟨b, 1, none⟩) jl).trans j1, (hY.cell ltk).trans ck⟩))
            clear ltk
            go_upto_region 7 with fail
            clear ck j0 j1
            obtain ⟨q0, e0⟩ : ∃ x, x = wr.drew := ⟨_, rfl⟩
            have K0 := Lib.hid (show Below wr.heap.size wr q0 from by rw [e0]; exact (Below.refl _ _).drew)
            have F0 := HPS.out q0 K0.out
            have HE0 := Lib.hid e0
            clear e0
            refine AnyT.begin_at tlN (fun Y => Y.cell? ⟨b, 0, none⟩ = some (.slice A L c) ∧ Y.cell? ⟨b, 1, none⟩ = some (.int .i64 wt) ∧ Y.cell? (ad.add k) = some (.int .i64 x)) (by kernel_rfl) HE0.out F0 ?_
            clear F0
            intro F0
-- TAKES NB
            refine AnyT.takeD (i := 0) (d := some 23) (v := .slice (some ad) n cc) rfl rfl (by kernel_rfl) (by kernel_rfl) (by kernel_rfl) (by kernel_rfl) (fun _ _ _ h => h) (Or.inl ⟨by rfl, fun wz _ => by go_simp⟩) F0 ?_
            simp only [Act.put, List.setIfInBounds_toArray, List.set_cons_zero, List.set_cons_succ]
            refine AnyT.takeD (i := 1) (d := some 24) (v := .int .i64 (k : Int)) rfl rfl (by kernel_rfl) (by kernel_rfl) (by kernel_rfl) (by kernel_rfl) (fun _ _ _ h => h) (Or.inl ⟨by rfl, fun wz _ => by go_simp⟩) F0 ?_
            simp only [Act.put, List.setIfInBounds_toArray, List.set_cons_zero, List.set_cons_succ]
            refine AnyT.takeD (i := 2) (d := some 25) (v := .pointer (some (ad.add k))) rfl rfl (by kernel_rfl) (by kernel_rfl) (by kernel_rfl) (by kernel_rfl) (fun _ _ _ h => h) (Or.inl ⟨by rfl, fun wz _ => by go_simp⟩) F0 ?_
            simp only [Act.put, List.setIfInBounds_toArray, List.set_cons_zero, List.set_cons_succ]
            refine AnyT.takeD (i := 3) (d := some 26) (v := .int .i64 x) rfl rfl (by kernel_rfl) (by kernel_rfl) (by kernel_rfl) (by kernel_rfl) (fun _ _ _ h => h) (Or.inl ⟨by rfl, fun wz hz => by obtain ⟨z0, z1, z2⟩ := hz; go_simp⟩) F0 ?_
            simp only [Act.put, List.setIfInBounds_toArray, List.set_cons_zero, List.set_cons_succ]
            refine AnyT.takeD (i := 4) (d := some 27) (v := .bool false) rfl rfl (by kernel_rfl) (by kernel_rfl) (by kernel_rfl) (by kernel_rfl) (fun _ _ _ h => h) (Or.inl ⟨by rfl, fun wz _ => by go_simp⟩) F0 ?_
            simp only [Act.put, List.setIfInBounds_toArray, List.set_cons_zero, List.set_cons_succ]
            refine AnyT.takeD (i := 5) (d := some 28) (v := .bool false) rfl rfl (by kernel_rfl) (by kernel_rfl) (by kernel_rfl) (by kernel_rfl) (fun _ _ _ h => h) (Or.inl ⟨by rfl, fun wz _ => by go_simp⟩) F0 ?_
            simp only [Act.put, List.setIfInBounds_toArray, List.set_cons_zero, List.set_cons_succ]
            refine AnyT.takeD (i := 6) (d := some 29) (v := .slice (some ad) n cc) rfl rfl (by kernel_rfl) (by kernel_rfl) (by kernel_rfl) (by kernel_rfl) (fun _ _ _ h => h) (Or.inl ⟨by rfl, fun wz _ => by go_simp⟩) F0 ?_
            simp only [Act.put, List.setIfInBounds_toArray, List.set_cons_zero, List.set_cons_succ]
            refine AnyT.takeD (i := 7) (d := some 30) (v := .int .i64 (k : Int)) rfl rfl (by kernel_rfl) (by kernel_rfl) (by kernel_rfl) (by kernel_rfl) (fun _ _ _ h => h) (Or.inl ⟨by rfl, fun wz _ => by go_simp⟩) F0 ?_
            simp only [Act.put, List.setIfInBounds_toArray, List.set_cons_zero, List.set_cons_succ]
            refine AnyT.takeD (i := 8) (d := some 31) (v := .pointer (some (ad.add k))) rfl rfl (by kernel_rfl) (by kernel_rfl) (by kernel_rfl) (by kernel_rfl) (fun _ _ _ h => h) (Or.inl ⟨by rfl, fun wz _ => by go_simp⟩) F0 ?_
            simp only [Act.put, List.setIfInBounds_toArray, List.set_cons_zero, List.set_cons_succ]
            refine AnyT.takeD (i := 9) (d := some 32) (v := .int .i64 x) rfl rfl (by kernel_rfl) (by kernel_rfl) (by kernel_rfl) (by kernel_rfl) (fun _ _ _ h => h) (Or.inl ⟨by rfl, fun wz hz => by obtain ⟨z0, z1, z2⟩ := hz; go_simp⟩) F0 ?_
            simp only [Act.put, List.setIfInBounds_toArray, List.set_cons_zero, List.set_cons_succ]
            refine AnyT.takeD (i := 10) (d := some 33) (v := .pointer (some ⟨b, 0, none⟩)) rfl rfl (by kernel_rfl) (by kernel_rfl) (by kernel_rfl) (by kernel_rfl) (fun _ _ _ h => h) (Or.inl ⟨by rfl, fun wz _ => by go_simp⟩) F0 ?_
            simp only [Act.put, List.setIfInBounds_toArray, List.set_cons_zero, List.set_cons_succ]
            refine AnyT.takeD (i := 11) (d := some 34) (v := .slice A L c) rfl rfl (by kernel_rfl) (by kernel_rfl) (by kernel_rfl) (by kernel_rfl) (fun _ _ _ h => h) (Or.inl ⟨by rfl, fun wz hz => by obtain ⟨z0, z1, z2⟩ := hz; go_simp⟩) F0 ?_
            simp only [Act.put, List.setIfInBounds_toArray, List.set_cons_zero, List.set_cons_succ]
            refine AnyT.takeD (i := 12) (d := some 35) (v := .int .i64 (L : Int)) rfl rfl (by kernel_rfl) (by kernel_rfl) (by kernel_rfl) (by kernel_rfl) (fun _ _ _ h => h) (Or.inl ⟨by rfl, fun wz _ => by go_simp⟩) F0 ?_
            simp only [Act.put, List.setIfInBounds_toArray, List.set_cons_zero, List.set_cons_succ]
            refine AnyT.takeD (i := 13) (d := some 36) (v := .bool true) rfl rfl (by kernel_rfl) (by kernel_rfl) (by kernel_rfl) (by kernel_rfl) (fun _ _ _ h => h) (Or.inl ⟨by rfl, fun wz _ => by go_simp⟩) F0 ?_
            simp only [Act.put, List.setIfInBounds_toArray, List.set_cons_zero, List.set_cons_succ]
            refine AnyT.takeD (i := 14) (d := some 37) (v := .bool true) rfl rfl (by kernel_rfl) (by kernel_rfl) (by kernel_rfl) (by kernel_rfl) (fun _ _ _ h => h) (Or.inl ⟨by rfl, fun wz _ => by go_simp⟩) F0 ?_
            simp only [Act.put, List.setIfInBounds_toArray, List.set_cons_zero, List.set_cons_succ]
            refine AnyT.takeD (i := 15) (d := some 38) (v := .bool true) rfl rfl (by kernel_rfl) (by kernel_rfl) (by kernel_rfl) (by kernel_rfl) (fun _ _ _ h => h) (Or.inl ⟨by rfl, fun wz _ => by go_simp⟩) F0 ?_
            simp only [Act.put, List.setIfInBounds_toArray, List.set_cons_zero, List.set_cons_succ]
            refine AnyT.takeD (i := 16) (d := some 39) (v := undef) rfl rfl (by kernel_rfl) (by kernel_rfl) (by kernel_rfl) (by kernel_rfl) (fun _ _ _ h => h) (Or.inr ⟨by rfl, rfl⟩) F0 ?_
            simp only [Act.put, List.setIfInBounds_toArray, List.set_cons_zero, List.set_cons_succ]
            refine AnyT.takeD (i := 17) (d := some 40) (v := undef) rfl rfl (by kernel_rfl) (by kernel_rfl) (by kernel_rfl) (by kernel_rfl) (fun _ _ _ h => h) (Or.inr ⟨by rfl, rfl⟩) F0 ?_
            simp only [Act.put, List.setIfInBounds_toArray, List.set_cons_zero, List.set_cons_succ]
            refine AnyT.takeD (i := 18) (d := some 41) (v := undef) rfl rfl (by kernel_rfl) (by kernel_rfl) (by kernel_rfl) (by kernel_rfl) (fun _ _ _ h => h) (Or.inr ⟨by rfl, rfl⟩) F0 ?_
            simp only [Act.put, List.setIfInBounds_toArray, List.set_cons_zero, List.set_cons_succ]
            refine AnyT.takeD (i := 19) (d := some 42) (v := undef) rfl rfl (by kernel_rfl) (by kernel_rfl) (by kernel_rfl) (by kernel_rfl) (fun _ _ _ h => h) (Or.inr ⟨by rfl, rfl⟩) F0 ?_
            simp only [Act.put, List.setIfInBounds_toArray, List.set_cons_zero, List.set_cons_succ]
            refine AnyT.takeD (i := 20) (d := some 43) (v := undef) rfl rfl (by kernel_rfl) (by kernel_rfl) (by kernel_rfl) (by kernel_rfl) (fun _ _ _ h => h) (Or.inr ⟨by rfl, rfl⟩) F0 ?_
            simp only [Act.put, List.setIfInBounds_toArray, List.set_cons_zero, List.set_cons_succ]
            refine AnyT.takeD (i := 21) (d := some 44) (v := undef) rfl rfl (by kernel_rfl) (by kernel_rfl) (by kernel_rfl) (by kernel_rfl) (fun _ _ _ h => h) (Or.inr ⟨by rfl, rfl⟩) F0 ?_
            simp only [Act.put, List.setIfInBounds_toArray, List.set_cons_zero, List.set_cons_succ]
            refine AnyT.takeD (i := 22) (d := some 45) (v := undef) rfl rfl (by kernel_rfl) (by kernel_rfl) (by kernel_rfl) (by kernel_rfl) (fun _ _ _ h => h) (Or.inr ⟨by rfl, rfl⟩) F0 ?_
            simp only [Act.put, List.setIfInBounds_toArray, List.set_cons_zero, List.set_cons_succ]
            refine AnyT.takeD (i := 23) (d := some 46) (v := undef) rfl rfl (by kernel_rfl) (by kernel_rfl) (by kernel_rfl) (by kernel_rfl) (fun _ _ _ h => h) (Or.inr ⟨by rfl, rfl⟩) F0 ?_
            simp only [Act.put, List.setIfInBounds_toArray, List.set_cons_zero, List.set_cons_succ]
            refine AnyT.takeD (i := 24) (d := some 47) (v := undef) rfl rfl (by kernel_rfl) (by kernel_rfl) (by kernel_rfl) (by kernel_rfl) (fun _ _ _ h => h) (Or.inr ⟨by rfl, rfl⟩) F0 ?_
            simp only [Act.put, List.setIfInBounds_toArray, List.set_cons_zero, List.set_cons_succ]
            refine AnyT.takeD (i := 25) (d := some 48) (v := undef) rfl rfl (by kernel_rfl) (by kernel_rfl) (by kernel_rfl) (by kernel_rfl) (fun _ _ _ h => h) (Or.inr ⟨by rfl, rfl⟩) F0 ?_
            simp only [Act.put, List.setIfInBounds_toArray, List.set_cons_zero, List.set_cons_succ]
            refine AnyT.takeD (i := 26) (d := some 49) (v := undef) rfl rfl (by kernel_rfl) (by kernel_rfl) (by kernel_rfl) (by kernel_rfl) (fun _ _ _ h => h) (Or.inr ⟨by rfl, rfl⟩) F0 ?_
            simp only [Act.put, List.setIfInBounds_toArray, List.set_cons_zero, List.set_cons_succ]
            refine AnyT.takeD (i := 27) (d := some 50) (v := undef) rfl rfl (by kernel_rfl) (by kernel_rfl) (by kernel_rfl) (by kernel_rfl) (fun _ _ _ h => h) (Or.inr ⟨by rfl, rfl⟩) F0 ?_
            simp only [Act.put, List.setIfInBounds_toArray, List.set_cons_zero, List.set_cons_succ]
            refine AnyT.takeD (i := 28) (d := some 51) (v := undef) rfl rfl (by kernel_rfl) (by kernel_rfl) (by kernel_rfl) (by kernel_rfl) (fun _ _ _ h => h) (Or.inr ⟨by rfl, rfl⟩) F0 ?_
            simp only [Act.put, List.setIfInBounds_toArray, List.set_cons_zero, List.set_cons_succ]
            refine AnyT.takeD (i := 29) (d := some 52) (v := undef) rfl rfl (by kernel_rfl) (by kernel_rfl) (by kernel_rfl) (by kernel_rfl) (fun _ _ _ h => h) (Or.inr ⟨by rfl, rfl⟩) F0 ?_
            simp only [Act.put, List.setIfInBounds_toArray, List.set_cons_zero, List.set_cons_succ]
            refine AnyT.takeD (i := 30) (d := some 53) (v := undef) rfl rfl (by kernel_rfl) (by kernel_rfl) (by kernel_rfl) (by kernel_rfl) (fun _ _ _ h => h) (Or.inr ⟨by rfl, rfl⟩) F0 ?_
            simp only [Act.put, List.setIfInBounds_toArray, List.set_cons_zero, List.set_cons_succ]
            refine AnyT.takeD (i := 31) (d := some 54) (v := undef) rfl rfl (by kernel_rfl) (by kernel_rfl) (by kernel_rfl) (by kernel_rfl) (fun _ _ _ h => h) (Or.inr ⟨by rfl, rfl⟩) F0 ?_
            simp only [Act.put, List.setIfInBounds_toArray, List.set_cons_zero, List.set_cons_succ]
            refine AnyT.takeD (i := 32) (d := some 55) (v := .bool true) rfl rfl (by kernel_rfl) (by kernel_rfl) (by kernel_rfl) (by kernel_rfl) (fun _ _ _ h => h) (Or.inl ⟨by rfl, fun wz _ => by go_simp⟩) F0 ?_
            simp only [Act.put, List.setIfInBounds_toArray, List.set_cons_zero, List.set_cons_succ]
            -- TAKEN NB
            refine AnyT.done_ (by kernel_rfl) ?_ _
            have BR1 := Lib.hid (BR.out.trans (K0.out.mono BR.out.size))
            have BW1 := Lib.hid (B2.out.trans (BR1.out.mono B2.out.size))
            clear F0 HPS HE0 K0
            go_wp2_with fail
            go_ret2
            exact ⟨ret_r2 HF.out, BW1.out⟩
      · have hkn : k = n := by omega
        subst hkn
        obtain ⟨p, hp, _⟩ := P.out
        have hch : chB l none cs = true := by rw [hp, HN.out, List.drop_length]; cases p <;> rfl
        obtain ⟨d, hd, hcd⟩ := chB_iff.1 hch
        have HE2 := Lib.hid (show boundE l wt cs = bnd l wt none 0 d by rw [HE.out, if_pos hch, hd, map_toZ])
        have HD := Lib.hid hd
        have HAT := Lib.hid (chn_at hcd)
        have HF := Lib.hid (formOk_of HV.out)
        have hnd : k = d.length := by rw [HN.out, hd, toZ_len]
        have HND := Lib.hid hnd
        have J3 := Lib.hid (J2.out.below BR.out J2.out.lt)
        clear hp P HE hd hcd hnd hch hlt J2 B2 BR
        obtain ⟨n, hnn⟩ : ∃ m, m = k := ⟨_, rfl⟩
        have HNN := Lib.hid hnn
        have HNL := Lib.hid (show n = cs.length by rw [hnn]; exact HN.out)
        have HNDL := Lib.hid (show n = d.length by rw [hnn]; exact HND.out)
        rw [← hnn] at hm' hk ⊢
        obtain ⟨w3, hw3⟩ : ∃ W, W = wr := ⟨_, rfl⟩
        have B3 := Lib.hid (show Below w.heap.size w w3 by rw [hw3]; exact BW.out)
        have J4 := Lib.hid (show JBox w3 b A L c wt by rw [hw3]; exact J3.out)
        rw [← hw3] at *
        clear hnn BW J3 HN HND HNN hw3
        go_wp2_with fail
        go_loopw [8, 9] (fun mv iv wr => ∃ (k : Nat) (m : Int), k ≤ n ∧ iv = .int .i64 (k : Int) ∧ mv = .int .i64 m ∧ (0 ≤ m ∧ m ≤ 4095) ∧ Hid ((k = 0 → m = 0) ∧ boundE l wt cs = bnd l wt (prv d k) m (d.drop k)) ∧ Hid (Below w3.heap.size w3 wr)) (fun _ iv _ => n - (intOf iv).toNat)
        case atStart => exact ⟨0, 0, by omega, rfl, rfl, by omega, Lib.hid ⟨fun _ => rfl, HE2.out⟩, Lib.hid (Below.refl _ _)⟩
        case round =>
          obtain ⟨k, m, hk, rfl, rfl, hmb, P, BR⟩ := hrel
          have BW := Lib.hid (B3.out.trans (BR.out.mono B3.out.size))
          by_cases hlt : k < n
          · obtain ⟨ad, rfl, _, ck⟩ := (HC.out.below BW.out) k (by rw [← HNL.out]; exact hlt)
            obtain ⟨at1, at2⟩ := HAT.out k (by rw [← HNDL.out]; exact hlt)
            have HA2 := Lib.hid at2
            obtain ⟨Y, hY⟩ : ∃ x, x = d.getD k 0 := ⟨_, rfl⟩
            have HYY := Lib.hid hY
            rw [HD.out, toZ_at _ (by rw [← HNDL.out]; exact hlt), ← hY] at ck
            rw [← hY] at at1
            have hYL : Y < L := by rw [HL.out]; exact at1
            have hYi : (Y : Int) < (L : Int) := by omega
            have hki : (k : Int) < (n : Int) := by omega
            obtain ⟨M', hM'⟩ : ∃ M', M' = if k = 0 then 0 else vk (rel l (d.getD (k - 1) 0) (d.getD k 0)) m := ⟨_, rfl⟩
            have HST := Lib.hid (bnd_step (l := l) (wt := wt) (d := d) (k := k) (m := m) (by rw [← HNDL.out]; exact hlt) P.out.1 hM' HA2.out)
            rw [← hY] at HST
            have hMb : 0 ≤ M' ∧ M' ≤ 4096 := by
              rw [hM']
              split
              · omega
              · have := vk_bd (r := rel l (d.getD (k - 1) 0) (d.getD k 0)) hmb.1; omega
            have HEQ := Lib.hid P.out.2
            have HK0 := Lib.hid P.out.1
            have HMM := Lib.hid hM'
            clear at1 at2 hY hM' P
            obtain ⟨j0, j1, jl⟩ := (J4.out.below BR.out J4.out.lt)
            go_upto_if 63 with fail
            obtain ⟨cb, hcb⟩ : ∃ cb, cb = decide (0 < k) := ⟨_, rfl⟩
            have hcb2 : decide ((0 : Int) < (k : Int)) = cb := by rw [hcb]; simp
            simp only [hcb2, ← hcb]
            clear hcb2
            go_cut [8] from 64 to 76 (fun mv wx => mv = .int .i64 M' ∧ Hid (Below w3.heap.size w3 wx))
            case first =>
              by_cases hk0 : k = 0
              · have hm0 := HMM.out
                rw [if_pos hk0] at hm0
                have hm1 := HK0.out hk0
                have hkz : ¬ 0 < k := by omega
                have hkzi : ¬ (0 : Int) < (k : Int) := by omega
                have hcf : cb = false := by rw [hcb]; simp [hk0]
                subst hcf
                subst hm0
                subst hm1
                clear HK0 HMM HST HEQ hk0 hcb
                go_wp2_with fail
                go_meet
                case rel => exact ⟨rfl, BR⟩
              · have hm0 := HMM.out
                have hrn := HA2.out (by omega)
                rw [if_neg hk0, vk_str hrn, ← HYY.out] at hm0
                obtain ⟨k1, hk1⟩ : ∃ k1, k1 = k - 1 := ⟨_, rfl⟩
                rw [← hk1] at hm0
                obtain ⟨ad', e', _, cq⟩ := (HC.out.below BW.out) k1 (by rw [← HNL.out]; omega)
                obtain rfl : ad = ad' := by injection e'
                rw [HD.out, toZ_at _ (by rw [← HNDL.out]; omega)] at cq
                obtain ⟨hX1, -⟩ := HAT.out k1 (by rw [← HNDL.out]; omega)
                obtain ⟨X, hX⟩ : ∃ x, x = d.getD k1 0 := ⟨_, rfl⟩
                rw [← hX] at cq hm0 hX1
                have HSB := Lib.hid (fun (W : World) (kb : Below wr.heap.size wr W) => HSI.out X Y (by rw [HL.out]; exact hX1) hYL W (HI.out.below (BW.out.trans (kb.mono BW.out.size))))
                have hsb : 0 ≤ str1 l X Y ∧ str1 l X Y ≤ 1 := by unfold str1; split <;> omega
                obtain ⟨s1, hs1⟩ : ∃ s, s = str1 l X Y := ⟨_, rfl⟩
                rw [← hs1] at HSB hm0 hsb
                have ltq := lt_of_cell cq
                have ltk := lt_of_cell ck
                have HPS := Lib.hid (fun (Z : World) (hZ : Below wr.heap.size wr Z) => (show Z.cell? ⟨b, 0, none⟩ = some (.slice A L c) ∧ Z.cell? ⟨b, 1, none⟩ = some (.int .i64 wt) ∧ Z.cell? (ad.add k1) = some (.int .i64 (X : Int)) ∧ Z.cell? (ad.add k) = some (.int .i64 (Y : Int)) from
                  ⟨(hZ.cell (p := ⟨b, 0, none⟩) jl).trans j0, (hZ.cell (p := ⟨b, 1, none⟩) jl).trans j1, (hZ.cell ltq).trans cq, (hZ.cell ltk).trans ck⟩))
                have hkp : 0 < k := by omega
                have hki0 : (0 : Int) < (k : Int) := by omega
                have hk1e : (k : Int) - 1 = (k1 : Int) := by omega
                have hk1n : (k1 : Int) < (n : Int) := by omega
                have hwk : IntKind.i64.wrap (k1 : Int) = (k1 : Int) := IntWalk.i64_in _ (by omega)
                have hwr : IntKind.i64.wrap (m + s1) = m + s1 := IntWalk.i64_in _ (by omega)
                have hct : cb = true := by rw [hcb]; simp; omega
                subst hct
                subst hm0
                clear e' hX hX1 ltq ltk cq HK0 HMM HST HEQ hk0 hk1 hs1 hrn hcb
                go_upto_region 14 with fail
                clear ck j0 j1
                obtain ⟨q0, e0⟩ : ∃ x, x = wr.drew := ⟨_, rfl⟩
                have K0 := Lib.hid (show Below wr.heap.size wr q0 from by rw [e0]; exact (Below.refl _ _).drew)
                have F0 := HPS.out q0 K0.out
                have HE0 := Lib.hid e0
                clear e0
                refine AnyT.begin_at tlN (fun Z => Z.cell? ⟨b, 0, none⟩ = some (.slice A L c) ∧ Z.cell? ⟨b, 1, none⟩ = some (.int .i64 wt) ∧ Z.cell? (ad.add k1) = some (.int .i64 (X : Int)) ∧ Z.cell? (ad.add k) = some (.int .i64 (Y : Int))) (by kernel_rfl) HE0.out F0 ?_
                clear F0
                intro F0
-- TAKES Q1
                refine AnyT.takeD (i := 0) (d := some 64) (v := .int .i64 m) rfl rfl (by kernel_rfl) (by kernel_rfl) (by kernel_rfl) (by kernel_rfl) (fun _ _ _ h => h) (Or.inl ⟨by rfl, fun wz _ => by go_simp⟩) F0 ?_
                simp only [Act.put, List.setIfInBounds_toArray, List.set_cons_zero, List.set_cons_succ]
                refine AnyT.takeD (i := 1) (d := some 65) (v := jv A L c wt) rfl rfl (by kernel_rfl) (by kernel_rfl) (by kernel_rfl) (by kernel_rfl) (fun _ _ _ h => h) (Or.inl ⟨by rfl, fun wz hz => by obtain ⟨z0, z1, z2, z3⟩ := hz; go_simp⟩) F0 ?_
                simp only [Act.put, List.setIfInBounds_toArray, List.set_cons_zero, List.set_cons_succ]
                refine AnyT.takeD (i := 2) (d := some 66) (v := .slice (some ad) n cc) rfl rfl (by kernel_rfl) (by kernel_rfl) (by kernel_rfl) (by kernel_rfl) (fun _ _ _ h => h) (Or.inl ⟨by rfl, fun wz _ => by go_simp⟩) F0 ?_
                simp only [Act.put, List.setIfInBounds_toArray, List.set_cons_zero, List.set_cons_succ]
                refine AnyT.takeD (i := 3) (d := some 67) (v := .int .i64 (k : Int)) rfl rfl (by kernel_rfl) (by kernel_rfl) (by kernel_rfl) (by kernel_rfl) (fun _ _ _ h => h) (Or.inl ⟨by rfl, fun wz _ => by go_simp⟩) F0 ?_
                simp only [Act.put, List.setIfInBounds_toArray, List.set_cons_zero, List.set_cons_succ]
                refine AnyT.takeD (i := 4) (d := some 68) (v := .int .i64 (k1 : Int)) rfl rfl (by kernel_rfl) (by kernel_rfl) (by kernel_rfl) (by kernel_rfl) (fun _ _ _ h => h) (Or.inl ⟨by rfl, fun wz _ => by go_simp⟩) F0 ?_
                simp only [Act.put, List.setIfInBounds_toArray, List.set_cons_zero, List.set_cons_succ]
                refine AnyT.takeD (i := 5) (d := some 69) (v := .pointer (some (ad.add k1))) rfl rfl (by kernel_rfl) (by kernel_rfl) (by kernel_rfl) (by kernel_rfl) (fun _ _ _ h => h) (Or.inl ⟨by rfl, fun wz _ => by go_simp⟩) F0 ?_
                simp only [Act.put, List.setIfInBounds_toArray, List.set_cons_zero, List.set_cons_succ]
                refine AnyT.takeD (i := 6) (d := some 70) (v := .int .i64 (X : Int)) rfl rfl (by kernel_rfl) (by kernel_rfl) (by kernel_rfl) (by kernel_rfl) (fun _ _ _ h => h) (Or.inl ⟨by rfl, fun wz hz => by obtain ⟨z0, z1, z2, z3⟩ := hz; go_simp⟩) F0 ?_
                simp only [Act.put, List.setIfInBounds_toArray, List.set_cons_zero, List.set_cons_succ]
                refine AnyT.takeD (i := 7) (d := some 71) (v := .slice (some ad) n cc) rfl rfl (by kernel_rfl) (by kernel_rfl) (by kernel_rfl) (by kernel_rfl) (fun _ _ _ h => h) (Or.inl ⟨by rfl, fun wz _ => by go_simp⟩) F0 ?_
                simp only [Act.put, List.setIfInBounds_toArray, List.set_cons_zero, List.set_cons_succ]
                refine AnyT.takeD (i := 8) (d := some 72) (v := .int .i64 (k : Int)) rfl rfl (by kernel_rfl) (by kernel_rfl) (by kernel_rfl) (by kernel_rfl) (fun _ _ _ h => h) (Or.inl ⟨by rfl, fun wz _ => by go_simp⟩) F0 ?_
                simp only [Act.put, List.setIfInBounds_toArray, List.set_cons_zero, List.set_cons_succ]
                refine AnyT.takeD (i := 9) (d := some 73) (v := .pointer (some (ad.add k))) rfl rfl (by kernel_rfl) (by kernel_rfl) (by kernel_rfl) (by kernel_rfl) (fun _ _ _ h => h) (Or.inl ⟨by rfl, fun wz _ => by go_simp⟩) F0 ?_
                simp only [Act.put, List.setIfInBounds_toArray, List.set_cons_zero, List.set_cons_succ]
                refine AnyT.takeD (i := 10) (d := some 74) (v := .int .i64 (Y : Int)) rfl rfl (by kernel_rfl) (by kernel_rfl) (by kernel_rfl) (by kernel_rfl) (fun _ _ _ h => h) (Or.inl ⟨by rfl, fun wz hz => by obtain ⟨z0, z1, z2, z3⟩ := hz; go_simp⟩) F0 ?_
                simp only [Act.put, List.setIfInBounds_toArray, List.set_cons_zero, List.set_cons_succ]
                -- TAKEN Q1
                refine AnyT.branch (rs := [11]) (by kernel_rfl) (by simp) ?_
                refine all_cons (?_) all_nil
                refine AnyT.enter (i := 11) (d := some 75) (f := 29) (args := #[jv A L c wt, .int .i64 (X : Int), .int .i64 (Y : Int)]) rfl rfl rfl (by go_simp) (HSB.out q0 K0.out) ?_
                rintro e q1 ⟨rfl, hB1⟩
                have K1 := Lib.hid (K0.out.trans (hB1.mono K0.out.size))
                have F1 := HPS.out q1 K1.out
                refine ⟨_, rfl, fun _ => F1, ?_⟩
                clear hB1 F0
                simp only [Act.put, List.setIfInBounds_toArray, List.set_cons_zero, List.set_cons_succ]
-- TAKES Q2
                refine AnyT.takeD (i := 12) (d := some 76) (v := .int .i64 (m + s1)) rfl rfl (by kernel_rfl) (by kernel_rfl) (by kernel_rfl) (by kernel_rfl) (fun _ _ _ h => h) (Or.inl ⟨by rfl, fun wz _ => by go_simp⟩) F1 ?_
                simp only [Act.put, List.setIfInBounds_toArray, List.set_cons_zero, List.set_cons_succ]
                refine AnyT.takeD (i := 13) (d := some 8) (v := .int .i64 (m + s1)) rfl rfl (by kernel_rfl) (by kernel_rfl) (by kernel_rfl) (by kernel_rfl) (fun _ _ _ h => h) (Or.inl ⟨by rfl, fun wz _ => by go_simp⟩) F1 ?_
                simp only [Act.put, List.setIfInBounds_toArray, List.set_cons_zero, List.set_cons_succ]
                -- TAKEN Q2
                refine AnyT.done_ (by kernel_rfl) ?_ _
                have BR1 := Lib.hid (BR.out.trans (K1.out.mono BR.out.size))
                clear F1 HPS HE0 K0 K1 HSB hwr
                go_wp2_with fail
                go_meet
                case rel => exact ⟨rfl, BR1⟩
            case rest =>
              clear ck j0 j1 jl BW BR HMM hcb
              obtain ⟨rfl, BR⟩ := hcut
              have BW := Lib.hid (B3.out.trans (BR.out.mono B3.out.size))
              obtain ⟨j0, j1, jl⟩ := (J4.out.below BR.out J4.out.lt)
              obtain ⟨aA, rfl, CE⟩ := (HI.out.below BW.out).at_ Y (by rw [← HL.out]; exact hYL)
              obtain ⟨-, -, r2, -⟩ := CE.spelt
              replace r2 : wc.cell? ⟨(aA.add (Y * 4)).block, (aA.add (Y * 4)).off + 2, none⟩ = some (.int .i64 (rnd l Y)) := r2
              obtain ⟨ad', e', _, ck⟩ := (HC.out.below BW.out) k (by rw [← HNL.out]; exact hlt)
              obtain rfl : ad = ad' := by injection e'
              rw [HD.out, toZ_at _ (by rw [← HNDL.out]; exact hlt), ← HYY.out] at ck
              have NR := Lib.hid (fun W => rnext_any M' (rnd l Y) wt W (by omega))
              have HNX := Lib.hid (fun (kk : Int) => next_bd (n := M') (r := rnd l Y) (wt := wt) (k := kk) hMb.1 (HF.out.rb Y (by rw [← HL.out]; exact hYL)) HF.out.wb)
              obtain ⟨⟨kk, er⟩, hnz⟩ : ∃ t, t = nextZ M' (rnd l Y) wt := ⟨_, rfl⟩
              have HNZ := Lib.hid hnz
              rw [← hnz] at NR HNX
              have hst := HST.out
              rw [← hnz] at hst
              have HST := Lib.hid hst
              clear hnz hst CE e'
              go_wp2_with fail
              go_quiet ((go_at_call 63; exact Calls.quiet_of (NR.out _)))
              clear j0 j1 jl r2 ck
              by_cases hez : er = 0
              · subst hez
                have hbd := HNX.out kk rfl
                have HP2 := Lib.hid (show (k + 1 = 0 → kk = 0) ∧ boundE l wt cs = bnd l wt (prv d (k + 1)) kk (d.drop (k + 1)) from ⟨fun h => by omega, by rw [HEQ.out, HST.out, if_pos rfl]⟩)
                clear HST HNX NR HNZ
                go_wp2_with fail
                go_roundw
                case rel => exact ⟨k + 1, kk, by omega, by go_num, rfl, by omega, HP2, Lib.hid (bdn BR.out)⟩
                case measure => simp [intOf]; omega
              · have HEE := Lib.hid (show boundE l wt cs = (0, er) by rw [HEQ.out, HST.out, if_neg hez])
                have hne : (er != 0) = true := bne_iff_ne.2 hez
                clear HST HNX NR HNZ hez
                go_wp2_with fail
                go_ret2
                exact ⟨ret_r2 HEE.out, bdn BW.out⟩
          · have hkn : k = n := by omega
            have HEE := Lib.hid (show boundE l wt cs = (m, 0) by rw [P.out.2, hkn, HNDL.out, List.drop_length, bnd_nil])
            have hki : ¬ (k : Int) < (n : Int) := by omega
            clear P
            go_wp2_with fail
            go_ret2
            exact ⟨ret_r2 HEE.out, BW.out⟩
  · have hE := HE.out
    rw [if_pos he] at hE
    have HEE := Lib.hid hE
    have hne : (validR l wt != 0) = true := bne_iff_ne.2 he
    clear he hE HE
    go_wp2_with fail
    go_ret2
    exact ⟨ret_r2 HEE.out, B2.out⟩
end Go.Proofs.Ytlagadbkencpbaa

namespace Go.Proofs.Ytlagadbkencpbaa
open Go.RowKit Go.Lib

/-- What holds while a chain is made. -/
structure ChS (w wr : World) (b m : Nat) (A : Option Addr) (c : Nat) (l : List It) (wt : Int) (u : Value) (d : List Nat) (N : Nat) : Prop where
  box : JBox wr b A l.length c wt
  its : IOwn 85 wr (m + 1) (.slice A l.length c) l
  lo : ∀ g, (Value.slice A l.length c).ownBlock = some g → g < b
  out : Own .i64 3 wr (b + 1) u (toZ d)
  ok : ∀ x ∈ d, x < l.length
  mkr : IsMk wr m N
  mv : Moves m w wr
  lt : m < b
  eq : b = w.heap.size
theorem ChS.step {w wr w' : World} {b m c N M : Nat} {A : Option Addr} {l : List It} {wt : Int} {u : Value} {d : List Nat} (h : ChS w wr b m A c l wt u d N) (k : Moves m wr w') (g : IsMk w' m M) : ChS w w' b m A c l wt u d M :=
  ⟨h.box.moves k (by have := h.lt; omega), h.its.moves k (Nat.lt_succ_self _), h.lo, h.out.moves k (by have := h.lt; omega), h.ok, g, h.mv.trans k, h.lt, h.eq⟩
theorem ChS.irow {w wr : World} {b m c N : Nat} {A : Option Addr} {l : List It} {wt : Int} {u : Value} {d : List Nat} (h : ChS w wr b m A c l wt u d N) : IRow wr A l := h.its.irow
theorem ChS.below {w wr w' : World} {b m c N : Nat} {A : Option Addr} {l : List It} {wt : Int} {u : Value} {d : List Nat} (h : ChS w wr b m A c l wt u d N) (k : Below wr.heap.size wr w') : ChS w w' b m A c l wt u d N :=
  h.step (Moves.of_below k) (h.mkr.stays' k)
theorem ChS.app {w wr w' : World} {b m c N x : Nat} {A : Option Addr} {l : List It} {wt : Int} {u v : Value} {d : List Nat} (h : ChS w wr b m A c l wt u d N) (a : AppI (b + 1) u (toZ d) (x : Int) wr v w') (hx : x < l.length) : ChS w w' b m A c l wt v (d ++ [x]) N := by
  obtain ⟨O, hg, g, cc, rfl, hlt, hat⟩ := a
  have hne : ∀ k, u.ownBlock = some k → b + 1 ≤ k := fun k hk => (own_block h.out hk).1
  have hblk : w'.heap[b]? = wr.heap[b]? := hg.block b h.box.lt (fun e => by have := hne b e.symm; omega)
  refine ⟨⟨(World.cell?_of_block (w := wr) hblk).trans h.box.c0, (World.cell?_of_block (w := wr) hblk).trans h.box.c1, Nat.lt_of_lt_of_le h.box.lt hg.size⟩, h.its.kept hg ?_, h.lo, by rw [toZ_app]; exact O, fun z hz => ?_, h.mkr.grown hg (fun k hk => by have := hne k hk; have := h.lt; omega), h.mv.grown hg (fun k hk => by have := hne k hk; have := h.eq; omega), h.lt, h.eq⟩
  · cases hv : (Value.slice A l.length c).ownBlock with
    | none => exact Or.inl rfl
    | some k => exact Or.inr (fun e => by have := h.lo k hv; have := hne k e.symm; omega)
  · rcases List.mem_append.1 hz with hz | hz
    · exact h.ok z hz
    · rw [List.mem_singleton] at hz; subst hz; exact hx
def ChPost (m M : Nat) (l : List It) (w : World) (e : Ending) (w' : World) : Prop :=
  ∃ u d, e = .returned u ∧ Own .i64 3 w' w.heap.size u (toZ d) ∧ (∀ x ∈ d, x < l.length) ∧ d.length ≤ l.length ∧ IsMk w' m M ∧ Moves m w w'
end Go.Proofs.Ytlagadbkencpbaa

namespace Go.Proofs.Ytlagadbkencpbaa
section
open Go.RowKit Go.Lib
set_option maxRecDepth 100000 in
set_option maxHeartbeats 3200000 in
theorem rwitness_any (l : List It) (A : Option Addr) (c L : Nat) (wt : Int) (hL : L = l.length) (w : World) (h : IRow w A l) :
    Calls Try.prog 39 #[jv A L c wt] w (WitPost l wt w) := by
  have H := Lib.hid h
  have HL := Lib.hid hL
  have HRL := Lib.hid (fun (W : World) (k : IRow W A l) => rleast_any l A c L wt hL W k)
  have HBK := Lib.hid (fun (V : Option Addr) (cv : Nat) (v : List Int) (W : World) (k : IRow W A l) (hv : Row .i64 W W.heap.size V v) (hvl : v.length = l.length) (hvb : ∀ k, k < l.length → 0 ≤ v.getD k 0 ∧ v.getD k 0 ≤ 1000000) (bs : List Int) (hbs : ∀ y, y < l.length → IsMaxP (fun x => x < l.length) (fun x => via l v x y) (bs.getD y 0)) (hok : BlkOk l) => back_any l A V c cv wt v W k hv hvl hvb bs hbs hok)
  have HBW := Lib.hid ((Below.refl w.heap.size w).alloc (Nat.le_refl _) (.cells #[.slice A L c, .int .i64 wt] 39))
  have HJ := Lib.hid (JBox.new (w := w) (A := A) (n := L) (c := c) (wt := wt) w.heap.size rfl)
  obtain ⟨b, hbq⟩ : ∃ b, b = w.heap.size := ⟨_, rfl⟩
  clear h hL
  go_enter Try.func39, Try.ntmps39
  go_upto_region 1 with fail
  rw [← hbq] at HJ ⊢
  generalize w.alloc (.cells #[.slice A L c, .int .i64 wt] 39) = w1 at *
  clear hbq
  obtain ⟨j0, j1, jl⟩ := HJ.out
  go_wp2_with fail
  refine (HRL.out w1 (H.out.below HBW.out)).mono ?_
  rintro e w2 ⟨st, pA, pn, pc, er, v, rfl, OV, B2, hr⟩
  obtain ⟨vA', vc', ev, VR, -, hvm, -⟩ := OV.slice
  have hvn : pn = v.length := by injection ev
  have hVA : pA = vA' := by injection ev
  subst hVA
  have BX := (Below.refl w2.heap.size w2).alloc (Nat.le_refl _) (.cells #[.int .i64 st, .slice pA pn pc] 24)
  have HJ3 := Lib.hid ((HJ.out.below B2 jl).below BX (Nat.lt_of_lt_of_le jl B2.size))
  have HB2 := HBW.out.trans (B2.mono HBW.out.size)
  have HB3 := Lib.hid (HB2.trans (BX.mono HB2.size))
  have HX := Lib.hid (PBox.new (w := w2) (st := st) (A := pA) (n := pn) (c := pc) w2.heap.size rfl)
  have HV3 := Lib.hid (VR.below BX)
  have HVN := Lib.hid hvn
  have HR := Lib.hid hr
  clear j0 j1 jl HJ B2 hr OV ev VR vc' hvm hvn BX HB2 HBW
  go_upto_region 2 with fail
  obtain ⟨g5, hg5⟩ : ∃ g, g = w2.heap.size := ⟨_, rfl⟩
  rw [← hg5] at HX ⊢
  generalize w2.alloc (.cells #[.int .i64 st, .slice pA pn pc] 24) = w3 at *
  clear hg5
  obtain ⟨j0, j1, jl⟩ := HJ3.out
  obtain ⟨x0, x1, -, xl⟩ := HX.out
  rcases HR.out with ⟨h0, rfl, -, -⟩ | ⟨h0, rfl, -, -, hno⟩ | ⟨h0, rfl, ⟨bs, hsol⟩, -⟩
  · have hne : (validR l wt != 0) = true := bne_iff_ne.2 h0
    have RR := Lib.hid (show WitR l wt [] (validR l wt) from Or.inl ⟨h0, rfl, rfl⟩)
    clear HR h0
    generalize validR l wt = er at *
    go_wp2_with fail
    go_ret2
    exact ⟨_, er, [], rfl, Own.nil, HB3.out, RR.out⟩
  · have RR := Lib.hid (show WitR l wt [] 15 from Or.inr (Or.inl ⟨h0, rfl, rfl, hno⟩))
    clear HR hno h0
    go_wp2_with fail
    go_ret2
    exact ⟨_, 15, [], rfl, Own.nil, HB3.out, RR.out⟩
  · have hf := formOk_of h0
    have hvl : v.length = l.length := hsol.vlen
    have HPN := Lib.hid (show pn = L by rw [HVN.out, hvl, HL.out])
    have hba := HBK.out pA pc v w3 (H.out.below HB3.out) HV3.out hvl (fun k _ => by have := (hsol.bound hf k).1; omega) bs (fun y hy => hsol.base y hy) hf.blk
    rw [← HL.out] at hba
    have HBA := Lib.hid hba
    have HS := Lib.hid hsol
    have HV0 := Lib.hid h0
    have hpn := HPN.out
    subst hpn
    clear HR hsol hf hvl h0 hba
    go_wp2_with fail
    refine HBA.out.mono ?_
    rintro e w4 ⟨u, zs, rfl, O4, hz, B4⟩
    have RR := Lib.hid (show WitR l wt zs 0 from Or.inr (Or.inr ⟨HV0.out, rfl, bs, v, HS.out, hz⟩))
    have O5 := Lib.hid (O4.base HB3.out.size)
    have HB5 := Lib.hid (HB3.out.trans (B4.mono HB3.out.size))
    clear hz O4 B4
    go_wp2_with fail
    go_ret2
    exact ⟨u, 0, zs, rfl, O5.out, HB5.out, RR.out⟩
end
section
open Go.RowKit Go.Lib
theorem own_len {k : IntKind} {T : TypeId} {w : World} {base : Nat} {v : Value} {zs : List Int} (h : Own k T w base v zs) : ∃ A c, v = .slice A zs.length c ∧ Row k w w.heap.size A zs ∧ zs.length ≤ maxLen := by
  obtain ⟨A, c, e, R, _, hm, _⟩ := h.slice
  exact ⟨A, c, e, R, hm⟩
set_option maxRecDepth 100000 in
set_option maxHeartbeats 1600000 in
theorem plans_same (st : Int) (v : List Int) (A A' : Option Addr) (n n' c c' : Nat) (w : World) (hn : n = v.length) (hn' : n' = v.length) (h : Row .i64 w w.heap.size A v) (h' : Row .i64 w w.heap.size A' v) (hl : v.length ≤ maxLen) :
    Calls Try.prog 33 #[pv st A n c, pv st A' n' c'] w fun e w' => e = .returned (.bool true) ∧ Below w.heap.size w w' := by
  subst hn
  subst hn'
  obtain ⟨L, hL⟩ : ∃ n, n = v.length := ⟨_, rfl⟩
  have s1 : (w.alloc (.cells #[.int .i64 st, .slice A v.length c] 24)).heap.size = w.heap.size + 1 := by simp
  have X0 := PBox.new (w := w) (st := st) (A := A) (n := v.length) (c := c) w.heap.size rfl
  have B0 := (Below.refl w.heap.size w).alloc (Nat.le_refl _) (.cells #[.int .i64 st, .slice A v.length c] 24)
  have Y0 := PBox.new (w := w.alloc (.cells #[.int .i64 st, .slice A v.length c] 24)) (st := st) (A := A') (n := v.length) (c := c') _ rfl
  have b1 := (Below.refl _ (w.alloc (.cells #[.int .i64 st, .slice A v.length c] 24))).alloc (Nat.le_refl _) (.cells #[.int .i64 st, .slice A' v.length c'] 24)
  have HX := Lib.hid (X0.below b1 X0.lt)
  have HB := Lib.hid (B0.trans (b1.mono B0.size))
  rw [s1] at Y0
  have HY := Lib.hid Y0
  have HIN := Lib.hid (fun (W : World) (k : Below w.heap.size w W) => ints_same v A A' c c' W (h.below k) (h'.below k) hl)
  rw [← hL] at HX HY HIN HB ⊢
  obtain ⟨b, hb⟩ : ∃ b, b = w.heap.size := ⟨_, rfl⟩
  clear s1 X0 B0 Y0 b1 h h' hl hL
  go_enter Try.func33, Try.ntmps33
  go_upto_region 1 with fail
  rw [← hb] at HX HY ⊢
  generalize (w.alloc (.cells #[.int .i64 st, .slice A L c] 24)).alloc (.cells #[.int .i64 st, .slice A' L c'] 24) = w1 at *
  clear hb
  obtain ⟨x0, x1, -, xl⟩ := HX.out
  obtain ⟨y0, y1, -, yl⟩ := HY.out
  have hee : (st == st) = true := by simp
  go_wp2_with fail
  refine (HIN.out _ HB.out).mono ?_
  rintro e w2 ⟨rfl, q, rfl⟩
  go_wp2_with fail
  go_ret
  exact ⟨rfl, bdn HB.out⟩
end
section
open Go.RowKit Go.Lib
theorem JBox.stO {w : World} {b n c : Nat} {A : Option Addr} {wt : Int} (h : JBox w b A n c wt) {p : Addr} (hp : p.block ≠ b) (u : Value) : JBox (w.setCell p u) b A n c wt :=
  ⟨(World.cell?_setCell_other w p ⟨b, 0, none⟩ u (fun e => hp (by first | exact congrArg Addr.block e | exact (congrArg Addr.block e).symm))).trans h.c0, (World.cell?_setCell_other w p ⟨b, 1, none⟩ u (fun e => hp (by first | exact congrArg Addr.block e | exact (congrArg Addr.block e).symm))).trans h.c1, by rw [World.size_setCell]; exact h.lt⟩
theorem flatI_any : ∀ (l : List It) (k f : Nat) (z : Int), f < 4 → ∃ l' : List It, l'.length = l.length ∧ flatI l' = (flatI l).set (k * 4 + f) z := by
  intro l
  induction l with
  | nil => intro k f z _; exact ⟨[], rfl, by simp [flatI]⟩
  | cons q l ih =>
    intro k f z hf
    cases k with
    | zero =>
      rcases f with _ | _ | _ | _ | f
      · exact ⟨(z, q.2.1, q.2.2.1, q.2.2.2) :: l, rfl, rfl⟩
      · exact ⟨(q.1, z, q.2.2.1, q.2.2.2) :: l, rfl, rfl⟩
      · exact ⟨(q.1, q.2.1, z, q.2.2.2) :: l, rfl, rfl⟩
      · exact ⟨(q.1, q.2.1, q.2.2.1, z) :: l, rfl, rfl⟩
      · omega
    | succ k =>
      obtain ⟨l', h1, h2⟩ := ih k f z hf
      refine ⟨q :: l', by simp [h1], ?_⟩
      rw [show (k + 1) * 4 + f = (k * 4 + f) + 1 + 1 + 1 + 1 by omega]
      show q.1 :: q.2.1 :: q.2.2.1 :: q.2.2.2 :: flatI l' = _
      rw [h2]; rfl
/-- What holds while a job is spoiled: its box, the box of the result, the list of its own. -/
structure SpJ (m N b : Nat) (w wr : World) (A : Option Addr) (n c : Nat) (l : List It) (wt : Int) : Prop where
  jb : JBox wr b A n c wt
  rb : JBox wr (b + 1) none 0 0 0
  fz : ∀ j, wr.frozen? ⟨b, j, none⟩ = false
  fr : ∀ j, wr.frozen? ⟨b + 1, j, none⟩ = false
  own : IOwn 85 wr w.heap.size (.slice A n c) l
  len : n = l.length
  lo : ∀ g, (Value.slice A n c).ownBlock = some g → b + 1 < g
  mkr : IsMk wr m N
  mv : Moves m w wr
  hb : b = w.heap.size
  hm : m < b
theorem SpJ.step {m N M b n c : Nat} {w wr w' : World} {A : Option Addr} {l : List It} {wt : Int} (h : SpJ m N b w wr A n c l wt) (k : Moves m wr w') (q : IsMk w' m M) : SpJ m M b w w' A n c l wt :=
  have hm := h.hm
  have hb := h.hb
  ⟨h.jb.moves k (by omega), h.rb.moves k (by omega), fun j => (k.frozen (p := ⟨b, j, none⟩) h.jb.lt (by show b ≠ m; omega)).trans (h.fz j), fun j => (k.frozen (p := ⟨b + 1, j, none⟩) h.rb.lt (by show b + 1 ≠ m; omega)).trans (h.fr j), h.own.moves k (by omega), h.len, h.lo, q, h.mv.trans k, hb, hm⟩
theorem SpJ.below {m N b n c : Nat} {w wr w' : World} {A : Option Addr} {l : List It} {wt : Int} (h : SpJ m N b w wr A n c l wt) (k : Below wr.heap.size wr w') : SpJ m N b w w' A n c l wt :=
  h.step (Moves.of_below k) (h.mkr.stays' k)
/-- The weight is written. -/
theorem SpJ.setW {m N b n c : Nat} {w wr : World} {A : Option Addr} {l : List It} {wt : Int} (h : SpJ m N b w wr A n c l wt) (z : Int) : SpJ m N b w (wr.setCell ⟨b, 1, none⟩ (.int .i64 z)) A n c l z := by
  have hm := h.hm
  have hb := h.hb
  refine ⟨⟨?_, World.cell?_setCell_same _ _ _ h.jb.c1, by rw [World.size_setCell]; exact h.jb.lt⟩, h.rb.stO (p := ⟨b, 1, none⟩) (by show b ≠ b + 1; omega) _, fun j => by rw [World.frozen?_setCell]; exact h.fz j, fun j => by rw [World.frozen?_setCell]; exact h.fr j,
    h.own.setOther (p := ⟨b, 1, none⟩) (fun e => by have := h.lo _ e; have : b + 1 < b := this; omega) _, h.len, h.lo, h.mkr.setCell (p := ⟨b, 1, none⟩) hm _, h.mv.setCell (p := ⟨b, 1, none⟩) (Or.inr (by show w.heap.size ≤ b; omega)) _, hb, hm⟩
  rw [World.cell?_setCell_other _ _ _ _ (by simp)]; exact h.jb.c0
/-- A field of an item is written. -/
theorem SpJ.setF {m N b g n c : Nat} {w wr : World} {l : List It} {wt : Int} (h : SpJ m N b w wr (some ⟨g, 0, none⟩) n c l wt) (k f : Nat) (hf : f < 4) (z : Int) : ∃ l', l'.length = l.length ∧ SpJ m N b w (wr.setCell ⟨g, k * 4 + f, none⟩ (.int .i64 z)) (some ⟨g, 0, none⟩) n c l' wt := by
  have hm := h.hm
  have hb := h.hb
  have hlo := h.lo g rfl
  obtain ⟨l', h1, h2⟩ := flatI_any l k f z hf
  refine ⟨l', h1, h.jb.stO (p := ⟨g, k * 4 + f, none⟩) (by show g ≠ b; omega) _, h.rb.stO (p := ⟨g, k * 4 + f, none⟩) (by show g ≠ b + 1; omega) _, fun j => by rw [World.frozen?_setCell]; exact h.fz j, fun j => by rw [World.frozen?_setCell]; exact h.fr j,
    ?_, by rw [h1]; exact h.len, h.lo, h.mkr.setCell (p := ⟨g, k * 4 + f, none⟩) (by show m < g; omega) _, h.mv.setCell (p := ⟨g, k * 4 + f, none⟩) (Or.inr (by show w.heap.size ≤ g; omega)) _, hb, hm⟩
  unfold IOwn
  rw [h2, h1]
  have hl := h.len
  have ho := h.own
  subst hl
  exact Flat.store ho _ _
def SpPost (m N n : Nat) (w : World) (e : Ending) (w' : World) : Prop :=
  ∃ A c l wt, e = .returned (jv A n c wt) ∧ IOwn 85 w' w.heap.size (.slice A n c) l ∧ n = l.length ∧ IsMk w' m N ∧ Moves m w w'
theorem SpJ.post {m N M b n c : Nat} {w wr : World} {A : Option Addr} {l : List It} {wt : Int} (h : SpJ m N b w wr A n c l wt) (hM : N ≤ M) :
    SpPost m M n w (.returned (jv A n c wt)) ((wr.setCell ⟨b + 1, 0, none⟩ (.slice A n c)).setCell ⟨b + 1, 1, none⟩ (.int .i64 wt)) := by
  have hm := h.hm
  have hb := h.hb
  exact ⟨_, c, l, wt, rfl, (h.own.setOther (p := ⟨b + 1, 0, none⟩) (fun e => by have := h.lo _ e; have : b + 1 < b + 1 := this; omega) _).setOther (p := ⟨b + 1, 1, none⟩) (fun e => by have := h.lo _ e; have : b + 1 < b + 1 := this; omega) _, h.len,
    ((h.mkr.setCell (p := ⟨b + 1, 0, none⟩) (by show m < b + 1; omega) _).setCell (p := ⟨b + 1, 1, none⟩) (by show m < b + 1; omega) _).more hM,
    (h.mv.setCell (p := ⟨b + 1, 0, none⟩) (Or.inr (by show w.heap.size ≤ b + 1; omega)) _).setCell (p := ⟨b + 1, 1, none⟩) (Or.inr (by show w.heap.size ≤ b + 1; omega)) _⟩
/-- The start. -/
theorem SpJ.begin {m N b c0 c n : Nat} {w w1 w2 : World} {A0 A : Option Addr} {l : List It} {wt : Int} (jb : JBox w1 b A0 n c0 wt) (rb : JBox w1 (b + 1) none 0 0 0) (fz : ∀ j, w1.frozen? ⟨b, j, none⟩ = false) (fr : ∀ j, w1.frozen? ⟨b + 1, j, none⟩ = false)
    (own : IOwn 85 w2 (b + 2) (.slice A n c) l) (len : n = l.length) (mkr : IsMk w2 m N) (mv0 : Moves m w w1) (mv : Moves m w1 w2) (hb : b = w.heap.size) (hm : m < b) : SpJ m N b w (w2.setCell ⟨b, 0, none⟩ (.slice A n c)) A n c l wt := by
  have jb2 := jb.moves mv (by omega)
  have hlo : ∀ g, (Value.slice A n c).ownBlock = some g → b + 1 < g := fun g e => by have := (own.block e).1; omega
  refine ⟨⟨World.cell?_setCell_same _ _ _ jb2.c0, ?_, by rw [World.size_setCell]; exact jb2.lt⟩, (rb.moves mv (by omega)).stO (p := ⟨b, 0, none⟩) (by show b ≠ b + 1; omega) _, fun j => ?_, fun j => ?_,
    (own.base (by omega)).setOther (p := ⟨b, 0, none⟩) (fun e => by have := hlo _ e; have : b + 1 < b := this; omega) _, len, hlo, mkr.setCell (p := ⟨b, 0, none⟩) hm _, (mv0.trans mv).setCell (p := ⟨b, 0, none⟩) (Or.inr (by show w.heap.size ≤ b; omega)) _, hb, hm⟩
  · rw [World.cell?_setCell_other _ _ _ _ (by simp)]; exact jb2.c1
  · rw [World.frozen?_setCell]; exact (mv.frozen (p := ⟨b, j, none⟩) jb.lt (by show b ≠ m; omega)).trans (fz j)
  · rw [World.frozen?_setCell]; exact (mv.frozen (p := ⟨b + 1, j, none⟩) rb.lt (by show b + 1 ≠ m; omega)).trans (fr j)
set_option maxRecDepth 100000 in
set_option maxHeartbeats 3200000 in
theorem spoil_any (m N : Nat) (l : List It) (A : Option Addr) (c L : Nat) (wt : Int) (hL : L = l.length) (hl : L ≤ 1000) (w : World) (K : IsMk w m N) (hN : N ≤ 900000) (hi : IRow w A l) (hA : A = none → L = 0 ∧ c = 0) :
    Calls Try.prog 20 #[.pointer (some ⟨m, 0, none⟩), jv A L c wt] w (SpPost m (N + 4) L w) := by
  obtain ⟨i0, hi0, hz0, hz1, hz2⟩ := info_parts infoIt
  have HL := Lib.hid hL
  have HAA := Lib.hid hA
  have s1 : (w.alloc (.cells #[.slice A L c, .int .i64 wt] 39)).heap.size = w.heap.size + 1 := by simp
  have J0 := JBox.new (w := w) (A := A) (n := L) (c := c) (wt := wt) w.heap.size rfl
  have B0 := (Below.refl w.heap.size w).alloc (Nat.le_refl _) (.cells #[.slice A L c, .int .i64 wt] 39)
  have X0 := JBox.new (w := w.alloc (.cells #[.slice A L c, .int .i64 wt] 39)) (A := none) (n := 0) (c := 0) (wt := 0) _ rfl
  have G0 := fun j => frozen_new w #[.slice A L c, .int .i64 wt] 39 w.heap.size j rfl
  have Y0 := fun j => frozen_new (w.alloc (.cells #[.slice A L c, .int .i64 wt] 39)) #[.slice none 0 0, .int .i64 0] 39 _ j rfl
  have b1 := (Below.refl _ (w.alloc (.cells #[.slice A L c, .int .i64 wt] 39))).alloc (Nat.le_refl _) (.cells #[.slice none 0 0, .int .i64 0] 39)
  have HJ := Lib.hid (J0.below b1 J0.lt)
  have HG := Lib.hid (fun j => (b1.frozen (p := ⟨w.heap.size, j, none⟩) J0.lt).trans (G0 j))
  have HBW := Lib.hid (B0.trans (b1.mono B0.size))
  have HS1 := Lib.hid (show ((w.alloc (.cells #[.slice A L c, .int .i64 wt] 39)).alloc (.cells #[.slice none 0 0, .int .i64 0] 39)).heap.size = w.heap.size + 2 by simp)
  rw [s1] at X0 Y0
  have HX := Lib.hid X0
  have HY := Lib.hid Y0
  have HK := Lib.hid K
  have HI := Lib.hid (hi.below HBW.out)
  have hml := K.lt
  obtain ⟨b, hbq⟩ : ∃ b, b = w.heap.size := ⟨_, rfl⟩
  have HB := Lib.hid hbq
  have hmb : m < b := by omega
  clear hL hA s1 J0 B0 X0 b1 G0 Y0 K hi hml
  go_enter Try.func20, Try.ntmps20
  go_upto_region 1 with fail
  rw [← hbq] at HJ HX HG HY HS1 ⊢
  generalize (w.alloc (.cells #[.slice A L c, .int .i64 wt] 39)).alloc (.cells #[.slice none 0 0, .int .i64 0] 39) = w1 at *
  have K1 := Lib.hid (HK.out.stays' HBW.out)
  have HSZ := Lib.hid (show w1.heap.size = b + 2 from HS1.out)
  have HMV := Lib.hid (show Moves m w w1 from Moves.of_below HBW.out)
  clear hbq HS1
  obtain ⟨j0, j1, jl⟩ := HJ.out
  have f0 := HG.out 0
  have f1 := HG.out 1
  go_upto_region 2 with (first | (at_builtin; refine wpList_app_src rfl (.tmp 6) (.tmp 8) 37 rfl w1.heap.size 85 i0 (.agg #[.int .i64 0, .int .i64 0, .int .i64 0, .int .i64 0]) 4 32 Try.underlying37 hi0 hz0 hz1 hz2 rfl (by decide) (.slice (some ⟨w1.heap.size, 0, none⟩) 0 0) 0 [] rfl (own_empty (Nat.le_refl _)) A L c ((flatI l).map (Value.int .i64)) rfl (fun e => HAA.out e) (by rw [List.length_map, flatI_len, HL.out]) (Row.newsO (HI.out.below ((Below.refl _ _).alloc (Nat.le_refl _) _)).row) one_cells (by unfold maxLen; omega) (by omega) (by simp) ?_; intro v1 w2 hown hgr; have O1 := (show IOwn 85 w2 w1.heap.size v1 l from (by have := IOwn.app (l := []) (m := l) (n := 0) (k := L) hown rfl HL.out; simpa using this)); have V1 := ((Moves.refl m w1).alloc (.cells #[] 85)).grown hgr (fun k e => (by simp [Value.ownBlock] at e; omega)); have K2 := (K1.out.alloc (.cells #[] 85)).grown hgr (fun k e => (by have := K1.out.lt; simp [Value.ownBlock] at e; omega)); obtain ⟨A1, c1, e1, HR1, hc1, hc2, hA1⟩ := O1.full; rw [← HL.out] at e1; subst e1; have HA1 := Lib.hid hA1; have SB := Lib.hid (SpJ.begin HJ.out HX.out HG.out HY.out (O1.base (by rw [HSZ.out]; exact Nat.le_refl _)) HL.out K2 HMV.out V1 HB.out hmb); obtain ⟨i0', i1', il'⟩ := HJ.out.moves V1 (by omega); have h0' := (V1.frozen (p := ⟨b, 0, none⟩) HJ.out.lt (by show b ≠ m; omega)).trans (HG.out 0); clear hown hgr O1 V1 K2 HR1 hc1 hc2 hA1))
  generalize w2.setCell ⟨b, 0, none⟩ (.slice A1 L c1) = w3 at *
  clear i0' i1' il' h0' j0 j1 jl f0 f1 HJ HX HG HY HK K1 HI HAA HMV hi0 hz0 hz1 hz2
  obtain ⟨j0, j1, jl⟩ := SB.out.jb
  by_cases hL0 : L = 0
  · subst hL0
    have SX := Lib.hid SB.out
    clear HA1 SB j0 j1 jl
    obtain ⟨j0, j1, jl⟩ := SX.out.jb
    go_wp2_with fail
    refine (pick_any m N (fun _ => True) _ 4 4 _ (SX.out.mkr.alloc _) (by omega) (by omega) (by omega) (by have := SX.out.mkr.lt; omega) (by simp) (by exact new_pick _ _ (fun _ => True) [-1, 13, 12, 0] (fun _ _ => trivial) _ rfl)).mono ?_
    rintro e wp ⟨z, rfl, -, kp, mp⟩
    have SP := Lib.hid ((SX.out.below ((Below.refl _ _).alloc (Nat.le_refl _) _)).step mp kp)
    have S9 := Lib.hid (SP.out.setW z)
    clear j0 j1 jl kp mp SX
    obtain ⟨j0, j1, jl⟩ := SP.out.jb
    have f0 := SP.out.fz 0
    have f1 := SP.out.fz 1
    go_upto_region 4 with fail
    generalize wp.setCell ⟨b, 1, none⟩ (.int .i64 z) = w9 at *
    clear j0 j1 jl f0 f1 SP
    obtain ⟨j0, j1, jl⟩ := S9.out.jb
    obtain ⟨r0, r1, rl⟩ := S9.out.rb
    have f0 := S9.out.fr 0
    have f1 := S9.out.fr 1
    have RB := Lib.hid (S9.out.rb.put (A' := A1) (n' := 0) (c' := c1) (wt' := z))
    go_wp2_with fail
    refine bodyPost_ret (results_job rfl _ _ (b + 1) 0 c1 (A1) z rfl RB.out) rfl ?_
    exact S9.out.post (by omega)
  · obtain ⟨g, hg, -⟩ := HA1.out (by rw [← HL.out]; omega)
    subst hg
    have hLz : ((L : Int) == 0) = false := by simp; omega
    go_wp2_with fail
    refine (next_any m N 8 w3 SB.out.mkr (by omega) (by omega) (by omega)).mono ?_
    rintro e w4 ⟨v, rfl, v1, v2, k1, k2⟩
    have SX := Lib.hid (SB.out.step k2 k1)
    clear j0 j1 jl k1 k2 SB HA1
    by_cases hv : v = 0
    · subst hv
      obtain ⟨j0, j1, jl⟩ := SX.out.jb
      go_wp2_with fail
      refine (pick_any m (N + 1) (fun _ => True) _ 4 4 _ (SX.out.mkr.alloc _) (by omega) (by omega) (by omega) (by have := SX.out.mkr.lt; omega) (by simp) (by exact new_pick _ _ (fun _ => True) [-1, 13, 12, 0] (fun _ _ => trivial) _ rfl)).mono ?_
      rintro e wp ⟨z, rfl, -, kp, mp⟩
      have SP := Lib.hid ((SX.out.below ((Below.refl _ _).alloc (Nat.le_refl _) _)).step mp kp)
      have S9 := Lib.hid (SP.out.setW z)
      clear j0 j1 jl kp mp SX
      obtain ⟨j0, j1, jl⟩ := SP.out.jb
      have f0 := SP.out.fz 0
      have f1 := SP.out.fz 1
      go_upto_region 4 with fail
      generalize wp.setCell ⟨b, 1, none⟩ (.int .i64 z) = w9 at *
      clear j0 j1 jl f0 f1 SP
      obtain ⟨j0, j1, jl⟩ := S9.out.jb
      obtain ⟨r0, r1, rl⟩ := S9.out.rb
      have f0 := S9.out.fr 0
      have f1 := S9.out.fr 1
      have RB := Lib.hid (S9.out.rb.put (A' := (some ⟨g, 0, none⟩)) (n' := L) (c' := c1) (wt' := z))
      go_wp2_with fail
      refine bodyPost_ret (results_job rfl _ _ (b + 1) L c1 ((some ⟨g, 0, none⟩)) z rfl RB.out) rfl ?_
      exact S9.out.post (by omega)
    · have hvz : (v == 0) = false := by simpa using hv
      obtain ⟨j0, j1, jl⟩ := SX.out.jb
      have HPS := Lib.hid (fun (X : World) (M : Nat) (h : SpJ m M b w X (some ⟨g, 0, none⟩) L c1 l wt) => (show X.cell? ⟨b, 0, none⟩ = some (.slice (some ⟨g, 0, none⟩) L c1) from h.jb.c0))
      clear hv
      go_upto_region 5 with fail
      clear j0 j1 jl hvz
      obtain ⟨q0, e0⟩ : ∃ x, x = w4.drew := ⟨_, rfl⟩
      have S0 := Lib.hid (show SpJ m (N + 1) b w q0 (some ⟨g, 0, none⟩) L c1 l wt from by rw [e0]; exact SX.out.below ((Below.refl _ _).drew))
      have F0 := HPS.out q0 _ S0.out
      have HE0 := Lib.hid e0
      clear e0 SX
      refine AnyT.begin_at tlN (fun X => X.cell? ⟨b, 0, none⟩ = some (.slice (some ⟨g, 0, none⟩) L c1)) (by kernel_rfl) HE0.out F0 ?_
      clear F0 HE0
      intro F0
-- TAKES J1
      refine AnyT.takeD (i := 0) (d := some 25) (v := .pointer (some ⟨b, 0, none⟩)) rfl rfl (by kernel_rfl) (by kernel_rfl) (by kernel_rfl) (by kernel_rfl) (fun _ _ _ h => h) (Or.inl ⟨by rfl, fun wz _ => by go_simp⟩) F0 ?_
      simp only [Act.put, List.setIfInBounds_toArray, List.set_cons_zero, List.set_cons_succ]
      refine AnyT.takeD (i := 1) (d := some 26) (v := .slice (some ⟨g, 0, none⟩) L c1) rfl rfl (by kernel_rfl) (by kernel_rfl) (by kernel_rfl) (by kernel_rfl) (fun _ _ _ h => h) (Or.inl ⟨by rfl, fun wz hz => by have z0 := hz; go_simp⟩) F0 ?_
      simp only [Act.put, List.setIfInBounds_toArray, List.set_cons_zero, List.set_cons_succ]
      refine AnyT.takeD (i := 2) (d := some 27) (v := .pointer (some ⟨m, 0, none⟩)) rfl rfl (by kernel_rfl) (by kernel_rfl) (by kernel_rfl) (by kernel_rfl) (fun _ _ _ h => h) (Or.inl ⟨by rfl, fun wz _ => by go_simp⟩) F0 ?_
      simp only [Act.put, List.setIfInBounds_toArray, List.set_cons_zero, List.set_cons_succ]
      refine AnyT.takeD (i := 3) (d := some 28) (v := .pointer (some ⟨b, 0, none⟩)) rfl rfl (by kernel_rfl) (by kernel_rfl) (by kernel_rfl) (by kernel_rfl) (fun _ _ _ h => h) (Or.inl ⟨by rfl, fun wz _ => by go_simp⟩) F0 ?_
      simp only [Act.put, List.setIfInBounds_toArray, List.set_cons_zero, List.set_cons_succ]
      refine AnyT.takeD (i := 4) (d := some 29) (v := .slice (some ⟨g, 0, none⟩) L c1) rfl rfl (by kernel_rfl) (by kernel_rfl) (by kernel_rfl) (by kernel_rfl) (fun _ _ _ h => h) (Or.inl ⟨by rfl, fun wz hz => by have z0 := hz; go_simp⟩) F0 ?_
      simp only [Act.put, List.setIfInBounds_toArray, List.set_cons_zero, List.set_cons_succ]
      refine AnyT.takeD (i := 5) (d := some 30) (v := .int .i64 (L : Int)) rfl rfl (by kernel_rfl) (by kernel_rfl) (by kernel_rfl) (by kernel_rfl) (fun _ _ _ h => h) (Or.inl ⟨by rfl, fun wz _ => by go_simp⟩) F0 ?_
      simp only [Act.put, List.setIfInBounds_toArray, List.set_cons_zero, List.set_cons_succ]
      -- TAKEN J1
      refine AnyT.branch (rs := [6]) (by kernel_rfl) (by simp) ?_
      refine all_cons (?_) all_nil
      refine AnyT.enter (i := 6) (d := some 31) (f := 40) (args := #[.pointer (some ⟨m, 0, none⟩), .int .i64 (L : Int)]) rfl rfl rfl (by go_simp) (next_any m (N + 1) (L : Int) q0 S0.out.mkr (by omega) (by omega) (by omega)) ?_
      rintro e q1 ⟨iv, rfl, iv1, iv2, k1, k2⟩
      have S1 := Lib.hid (S0.out.step k2 k1)
      have F1 := HPS.out q1 _ S1.out
      refine ⟨_, rfl, fun _ => F1, ?_⟩
      clear F0 k1 k2 S0
      simp only [Act.put, List.setIfInBounds_toArray, List.set_cons_zero, List.set_cons_succ]
      obtain ⟨i, rfl⟩ := Int.eq_ofNat_of_zero_le iv1
      have hiL : i < L := by omega
      have hiI : (i : Int) < (L : Int) := by omega
-- TAKES J2
      refine AnyT.takeD (i := 7) (d := some 32) (v := .pointer (some ((⟨g, 0, none⟩ : Addr).add (i * 4)))) rfl rfl (by kernel_rfl) (by kernel_rfl) (by kernel_rfl) (by kernel_rfl) (fun _ _ _ h => h) (Or.inl ⟨by rfl, fun wz _ => by go_simp⟩) F1 ?_
      simp only [Act.put, List.setIfInBounds_toArray, List.set_cons_zero, List.set_cons_succ]
      refine AnyT.takeD (i := 8) (d := some 5) (v := .pointer (some ((⟨g, 0, none⟩ : Addr).add (i * 4)))) rfl rfl (by kernel_rfl) (by kernel_rfl) (by kernel_rfl) (by kernel_rfl) (fun _ _ _ h => h) (Or.inl ⟨by rfl, fun wz _ => by go_simp⟩) F1 ?_
      simp only [Act.put, List.setIfInBounds_toArray, List.set_cons_zero, List.set_cons_succ]
      -- TAKEN J2
      refine AnyT.done_ (by kernel_rfl) ?_ _
      clear F1 HPS
      go_wp2_with fail
      refine (next_any m (N + 1 + 1) 4 q1 S1.out.mkr (by omega) (by omega) (by omega)).mono ?_
      rintro e w6 ⟨s, rfl, s1, s2, k1, k2⟩
      have S7 := Lib.hid (S1.out.step k2 k1)
      clear k1 k2 S1
      have hs : s = 0 ∨ s = 1 ∨ s = 2 ∨ s = 3 := by omega
      rcases hs with rfl | rfl | rfl | rfl
      · obtain ⟨j0, j1, jl⟩ := S7.out.jb
        go_wp2_with fail
        refine (pick_any m (N + 3) (fun _ => True) _ 3 3 _ (S7.out.mkr.alloc _) (by omega) (by omega) (by omega) (by have := S7.out.mkr.lt; omega) (by simp) (by exact new_pick _ _ (fun _ => True) [-1, 15, 16] (fun _ _ => trivial) _ rfl)).mono ?_
        rintro e wp ⟨z, rfl, -, kp, mp⟩
        have SP := Lib.hid ((S7.out.below ((Below.refl _ _).alloc (Nat.le_refl _) _)).step mp kp)
        obtain ⟨l9, h9, s9⟩ := SP.out.setF i 0 (by omega) z
        have S9 := Lib.hid s9
        obtain ⟨⟨c0, c1, c2, c3⟩, fz⟩ := SP.out.own.at4 SP.out.len (k := i) (by rw [← SP.out.len]; exact hiL)
        have fzi := fz (i * 4)
        clear j0 j1 jl kp mp S7 s9 h9 fz
        go_upto_region 14 with fail
        generalize wp.setCell ⟨g, i * 4, none⟩ (.int .i64 z) = w9 at *
        clear c0 c1 c2 c3 fzi SP
        obtain ⟨j0, j1, jl⟩ := S9.out.jb
        obtain ⟨r0, r1, rl⟩ := S9.out.rb
        have f0 := S9.out.fr 0
        have f1 := S9.out.fr 1
        have RB := Lib.hid (S9.out.rb.put (A' := (some ⟨g, 0, none⟩)) (n' := L) (c' := c1) (wt' := wt))
        go_wp2_with fail
        refine bodyPost_ret (results_job rfl _ _ (b + 1) L c1 ((some ⟨g, 0, none⟩)) wt rfl RB.out) rfl ?_
        exact S9.out.post (by omega)
      · obtain ⟨j0, j1, jl⟩ := S7.out.jb
        go_wp2_with fail
        refine (pick_any m (N + 3) (fun _ => True) _ 3 3 _ (S7.out.mkr.alloc _) (by omega) (by omega) (by omega) (by have := S7.out.mkr.lt; omega) (by simp) (by exact new_pick _ _ (fun _ => True) [-1, 31, 32] (fun _ _ => trivial) _ rfl)).mono ?_
        rintro e wp ⟨z, rfl, -, kp, mp⟩
        have SP := Lib.hid ((S7.out.below ((Below.refl _ _).alloc (Nat.le_refl _) _)).step mp kp)
        obtain ⟨l9, h9, s9⟩ := SP.out.setF i 1 (by omega) z
        have S9 := Lib.hid s9
        obtain ⟨⟨c0, c1, c2, c3⟩, fz⟩ := SP.out.own.at4 SP.out.len (k := i) (by rw [← SP.out.len]; exact hiL)
        have fzi := fz (i * 4 + 1)
        clear j0 j1 jl kp mp S7 s9 h9 fz
        go_upto_region 14 with fail
        generalize wp.setCell ⟨g, i * 4 + 1, none⟩ (.int .i64 z) = w9 at *
        clear c0 c1 c2 c3 fzi SP
        obtain ⟨j0, j1, jl⟩ := S9.out.jb
        obtain ⟨r0, r1, rl⟩ := S9.out.rb
        have f0 := S9.out.fr 0
        have f1 := S9.out.fr 1
        have RB := Lib.hid (S9.out.rb.put (A' := (some ⟨g, 0, none⟩)) (n' := L) (c' := c1) (wt' := wt))
        go_wp2_with fail
        refine bodyPost_ret (results_job rfl _ _ (b + 1) L c1 ((some ⟨g, 0, none⟩)) wt rfl RB.out) rfl ?_
        exact S9.out.post (by omega)
      · obtain ⟨j0, j1, jl⟩ := S7.out.jb
        go_wp2_with fail
        refine (pick_any m (N + 3) (fun _ => True) _ 5 5 _ (S7.out.mkr.alloc _) (by omega) (by omega) (by omega) (by have := S7.out.mkr.lt; omega) (by simp) (by exact new_pick _ _ (fun _ => True) [-1, 0, 5, 12, 13] (fun _ _ => trivial) _ rfl)).mono ?_
        rintro e wp ⟨z, rfl, -, kp, mp⟩
        have SP := Lib.hid ((S7.out.below ((Below.refl _ _).alloc (Nat.le_refl _) _)).step mp kp)
        obtain ⟨l9, h9, s9⟩ := SP.out.setF i 2 (by omega) z
        have S9 := Lib.hid s9
        obtain ⟨⟨c0, c1, c2, c3⟩, fz⟩ := SP.out.own.at4 SP.out.len (k := i) (by rw [← SP.out.len]; exact hiL)
        have fzi := fz (i * 4 + 2)
        clear j0 j1 jl kp mp S7 s9 h9 fz
        go_upto_region 14 with fail
        generalize wp.setCell ⟨g, i * 4 + 2, none⟩ (.int .i64 z) = w9 at *
        clear c0 c1 c2 c3 fzi SP
        obtain ⟨j0, j1, jl⟩ := S9.out.jb
        obtain ⟨r0, r1, rl⟩ := S9.out.rb
        have f0 := S9.out.fr 0
        have f1 := S9.out.fr 1
        have RB := Lib.hid (S9.out.rb.put (A' := (some ⟨g, 0, none⟩)) (n' := L) (c' := c1) (wt' := wt))
        go_wp2_with fail
        refine bodyPost_ret (results_job rfl _ _ (b + 1) L c1 ((some ⟨g, 0, none⟩)) wt rfl RB.out) rfl ?_
        exact S9.out.post (by omega)
      · obtain ⟨j0, j1, jl⟩ := S7.out.jb
        go_wp2_with fail
        refine (pick_any m (N + 3) (fun _ => True) _ 4 4 _ (S7.out.mkr.alloc _) (by omega) (by omega) (by omega) (by have := S7.out.mkr.lt; omega) (by simp) (by exact new_pick _ _ (fun _ => True) [0, 1, 400, 401] (fun _ _ => trivial) _ rfl)).mono ?_
        rintro e wp ⟨z, rfl, -, kp, mp⟩
        have SP := Lib.hid ((S7.out.below ((Below.refl _ _).alloc (Nat.le_refl _) _)).step mp kp)
        obtain ⟨l9, h9, s9⟩ := SP.out.setF i 3 (by omega) z
        have S9 := Lib.hid s9
        obtain ⟨⟨c0, c1, c2, c3⟩, fz⟩ := SP.out.own.at4 SP.out.len (k := i) (by rw [← SP.out.len]; exact hiL)
        have fzi := fz (i * 4 + 3)
        clear j0 j1 jl kp mp S7 s9 h9 fz
        go_upto_region 14 with fail
        generalize wp.setCell ⟨g, i * 4 + 3, none⟩ (.int .i64 z) = w9 at *
        clear c0 c1 c2 c3 fzi SP
        obtain ⟨j0, j1, jl⟩ := S9.out.jb
        obtain ⟨r0, r1, rl⟩ := S9.out.rb
        have f0 := S9.out.fr 0
        have f1 := S9.out.fr 1
        have RB := Lib.hid (S9.out.rb.put (A' := (some ⟨g, 0, none⟩)) (n' := L) (c' := c1) (wt' := wt))
        go_wp2_with fail
        refine bodyPost_ret (results_job rfl _ _ (b + 1) L c1 ((some ⟨g, 0, none⟩)) wt rfl RB.out) rfl ?_
        exact S9.out.post (by omega)
end
section
open Go.RowKit Go.WideShapes Go.ChangeShapes Go.ChangeShapes
section
variable {H : Type} {enc : TypeId × Value → H} {P : Program} {w : World} {base : Nat} {spare : Nat → Bool} {held : Bool}
theorem trod_struct4 {t : TypeId} {f0 f1 f2 f3 : Field} {fuel : Nat} {cs : List Value} {x : DataW H × List MemPlace} (ht : P.underlying t = some (.struct #[f0, f1, f2, f3])) (h : DataW.trod enc P w base spare held fuel t cs = some x) :
    ∃ y0 y1 y2 y3 n, DataW.trod enc P w base spare held n f0.type ((cs.drop f0.offset).take (P.cellsOf f0.type)) = some y0 ∧ DataW.trod enc P w base spare held n f1.type ((cs.drop f1.offset).take (P.cellsOf f1.type)) = some y1 ∧
      DataW.trod enc P w base spare held n f2.type ((cs.drop f2.offset).take (P.cellsOf f2.type)) = some y2 ∧ DataW.trod enc P w base spare held n f3.type ((cs.drop f3.offset).take (P.cellsOf f3.type)) = some y3 := by
  obtain ⟨xs, n, _, rfl, hl, hlen, hf⟩ := DataW.trod_struct ht h
  match xs, hlen with
  | [y0, y1, y2, y3], _ => exact ⟨y0, y1, y2, y3, n, by simpa using hf 0 f0 rfl, by simpa using hf 1 f1 rfl, by simpa using hf 2 f2 rfl, by simpa using hf 3 f3 rfl⟩
/-- A slice of items, as the reader reads it. -/
theorem open_items {t e : TypeId} {f0 f1 f2 f3 : Field} {fuel : Nat} {A : Option Addr} {len cap : Nat} {x : DataW H × List MemPlace}
    (ht : P.underlying t = some (.slice e)) (he : P.underlying e = some (.struct #[f0, f1, f2, f3]))
    (ce : P.cellsOf e = 4) (o0 : f0.offset = 0) (o1 : f1.offset = 1) (o2 : f2.offset = 2) (o3 : f3.offset = 3) (u0 : P.underlying f0.type = some (.int .i64)) (u1 : P.underlying f1.type = some (.int .i64)) (u2 : P.underlying f2.type = some (.int .i64)) (u3 : P.underlying f3.type = some (.int .i64))
    (c0 : P.cellsOf f0.type = 1) (c1 : P.cellsOf f1.type = 1) (c2 : P.cellsOf f2.type = 1) (c3 : P.cellsOf f3.type = 1)
    (h : DataW.trod enc P w base spare held fuel t [.slice A len cap] = some x) : ∃ l : List It, len = l.length ∧ IRow w A l := by
  rcases Deep.open_slice ht h with ⟨h0, _⟩ | ⟨a, len', cap', m, n, D, Pl, h0, hb, hl, hm, hmm, _, hx⟩
  · injection h0 with h0
    injection h0 with e1 e2 e3
    subst e1; subst e2; subst e3
    exact ⟨[], rfl, IRow.nil⟩
  · injection h0 with h0
    injection h0 with e1 e2 e3
    subst e1; subst e2; subst e3
    have hlm : len ≤ m := by rw [hmm]; split <;> omega
    have each : ∀ i, i < len → ∃ p : It, w.cell? (a.add (i * 4)) = some (.int .i64 p.1) ∧ w.cell? (a.add (i * 4 + 1)) = some (.int .i64 p.2.1) ∧ w.cell? (a.add (i * 4 + 2)) = some (.int .i64 p.2.2.1) ∧ w.cell? (a.add (i * 4 + 3)) = some (.int .i64 p.2.2.2) := by
      intro i hi
      obtain ⟨cs', g1, g2⟩ := hx i (by omega)
      rw [ce] at g1
      obtain ⟨_, hlen, hcell⟩ := World.cells?_some g1
      obtain ⟨y0, y1, y2, y3, n', t0, t1, t2, t3⟩ := trod_struct4 he g2
      match cs', hlen with
      | [v0, v1, v2, v3], _ =>
        simp [o0, o1, o2, o3, c0, c1, c2, c3] at t0 t1 t2 t3
        obtain ⟨a0, e0, _, _⟩ := DataW.trod_int u0 t0
        obtain ⟨a1, e1, _, _⟩ := DataW.trod_int u1 t1
        obtain ⟨a2, e2, _, _⟩ := DataW.trod_int u2 t2
        obtain ⟨a3, e3, _, _⟩ := DataW.trod_int u3 t3
        simp at e0 e1 e2 e3
        subst e0; subst e1; subst e2; subst e3
        have k0 := hcell 0 (by omega)
        have k1 := hcell 1 (by omega)
        have k2 := hcell 2 (by omega)
        have k3 := hcell 3 (by omega)
        rw [Deep.add_add] at k0 k1 k2 k3
        exact ⟨(a0, a1, a2, a3), by simpa using k0, by simpa using k1, by simpa using k2, by simpa using k3⟩
    obtain ⟨f, hf⟩ := Deep.choose_lt each
    refine ⟨(List.range len).map f, by simp, ⟨?_, by simp; omega⟩⟩
    intro j hj
    rw [flatI_len] at hj
    simp only [List.length_map, List.length_range] at hj
    have hi : j / 4 < len := by omega
    have hg : ((List.range len).map f).getD (j / 4) it0 = f (j / 4) := by
      rw [List.getD_eq_getElem?_getD, List.getElem?_map, List.getElem?_range hi]; rfl
    obtain ⟨k0, k1, k2, k3⟩ := hf (j / 4) hi
    obtain ⟨e0, e1, e2, e3⟩ := flatI_at ((List.range len).map f) (j / 4)
    rw [hg] at e0 e1 e2 e3
    have hblk : a.block < w.heap.size := by have := lt_of_cell k0; rwa [add_block] at this
    refine ⟨a, rfl, hblk, ?_⟩
    rcases (by omega : j = j / 4 * 4 ∨ j = j / 4 * 4 + 1 ∨ j = j / 4 * 4 + 2 ∨ j = j / 4 * 4 + 3) with e | e | e | e
    · rw [e, k0, e0]
    · rw [e, k1, e1]
    · rw [e, k2, e2]
    · rw [e, k3, e3]
/-- A job by value. -/
theorem open_job {r : Reach} {b0 : Nat} {t e : TypeId} {h0 h1 f0 f1 f2 f3 : Field} {v : Value} {d : DataW H} {p : List MemPlace} (ht : P.underlying t = some (.struct #[h0, h1])) (ct : P.cellsOf t = 2) (q0 : h0.offset = 0) (q1 : h1.offset = 1) (hs : P.underlying h0.type = some (.slice e)) (hi : P.underlying h1.type = some (.int .i64)) (d0 : P.cellsOf h0.type = 1) (d1 : P.cellsOf h1.type = 1)
    (he : P.underlying e = some (.struct #[f0, f1, f2, f3]))
    (ce : P.cellsOf e = 4) (o0 : f0.offset = 0) (o1 : f1.offset = 1) (o2 : f2.offset = 2) (o3 : f3.offset = 3) (u0 : P.underlying f0.type = some (.int .i64)) (u1 : P.underlying f1.type = some (.int .i64)) (u2 : P.underlying f2.type = some (.int .i64)) (u3 : P.underlying f3.type = some (.int .i64))
    (c0 : P.cellsOf f0.type = 1) (c1 : P.cellsOf f1.type = 1) (c2 : P.cellsOf f2.type = 1) (c3 : P.cellsOf f3.type = 1)
    (hv : Value.okWide P w r b0 t v) (h : DataW.Trod enc P w base spare held t v d p) : ∃ A len cap l wt, v = .agg #[.slice A len cap, .int .i64 wt] ∧ len = l.length ∧ IRow w A l := by
  obtain ⟨cs, rfl, hsz⟩ := okWide_struct ht hv
  rw [ct] at hsz
  obtain ⟨fuel, h⟩ := h
  obtain ⟨ll⟩ := cs
  match ll, hsz with
  | [v0, v1], _ =>
    obtain ⟨y0, y1, n, _, _, t0, t1⟩ := trod_struct2 ht h
    simp [Value.cells, q0, q1, d0, d1] at t0 t1
    obtain ⟨a1, e1, _, _⟩ := DataW.trod_int hi t1
    simp at e1
    subst e1
    have hsl : ∃ A len cap, v0 = .slice A len cap := by
      rcases Deep.open_slice hs t0 with ⟨h0, _⟩ | ⟨a, len', cap', m, n, D, Pl, h0, _⟩
      · injection h0 with h0
        exact ⟨_, _, _, h0⟩
      · injection h0 with h0
        exact ⟨_, _, _, h0⟩
    obtain ⟨A, len, cap, rfl⟩ := hsl
    obtain ⟨l, h1, h2⟩ := open_items hs he ce o0 o1 o2 o3 u0 u1 u2 u3 c0 c1 c2 c3 t0
    exact ⟨A, len, cap, l, a1, rfl, h1, h2⟩
end
end
section
open Go.RowKit Go.Lib
theorem iown_none {T : TypeId} {w : World} {base n c : Nat} {A : Option Addr} {l : List It} (h : IOwn T w base (.slice A n c) l) (e : A = none) : n = 0 ∧ c = 0 := by
  subst e
  rcases h.2 with ⟨q, _⟩ | ⟨g, cap, cur, q, _⟩
  · injection q with _ q2 q3
    exact ⟨q2, q3⟩
  · injection q with q1
    cases q1
end
end Go.Proofs.Ytlagadbkencpbaa

namespace Go.Proofs.Ytlagadbkencpbaa
open Go.RowKit Go.Lib

set_option maxRecDepth 100000 in
set_option maxHeartbeats 3200000 in
theorem rmake_any (l : List It) (A : Option Addr) (c L : Nat) (wt : Int) (hL : L = l.length) (w : World) (h : IRow w A l) :
    Calls Try.prog 16 #[jv A L c wt] w (MakePost l wt w) := by
  have s1 : (w.alloc (.cells #[.slice A L c, .int .i64 wt] 39)).heap.size = w.heap.size + 1 := by simp
  have B1 := (Below.refl w.heap.size w).alloc (Nat.le_refl _) (.cells #[.slice A L c, .int .i64 wt] 39)
  have b2 := (Below.refl (w.heap.size + 1) (w.alloc (.cells #[.slice A L c, .int .i64 wt] 39))).alloc (Nat.le_of_eq s1.symm) (qcells 0 none 0 0 none 0 0)
  have J0 := Lib.hid ((JBox.new (w := w) (A := A) (n := L) (c := c) (wt := wt) w.heap.size rfl).below b2 (Nat.lt_succ_self _))
  have Q0 := Lib.hid (QBox.new (w := w.alloc (.cells #[.slice A L c, .int .i64 wt] 39)) (st := 0) (A := none) (n := 0) (c := 0) (B := none) (m := 0) (d := 0) (w.heap.size + 1) s1.symm)
  have HB := Lib.hid (B1.trans (b2.mono (Nat.le_succ _)))
  have HLE := Lib.hid (fun (W : World) (k : Below w.heap.size w W) => rleast_any l A c L wt hL W (h.below k))
  have HWI := Lib.hid (fun (W : World) (k : Below w.heap.size w W) => rwitness_any l A c L wt hL W (h.below k))
  obtain ⟨b, hb⟩ : ∃ b, b = w.heap.size := ⟨_, rfl⟩
  have HBQ := Lib.hid hb
  clear h hL s1 B1 b2
  go_enter Try.func16, Try.ntmps16
  go_upto_region 1 with fail
  rw [← hb] at J0 Q0 ⊢
  generalize (w.alloc (.cells #[.slice A L c, .int .i64 wt] 39)).alloc (qcells 0 none 0 0 none 0 0) = w1 at *
  clear hb
  obtain ⟨j0, j1, jl⟩ := J0.out
  go_wp2_with fail
  refine (HLE.out w1 HB.out).mono ?_
  rintro e w2 ⟨st, vA, vn, vc, er, v, rfl, OV, B2, hr⟩
  have hlt1 : b + 1 < w1.heap.size := Q0.out.lt
  have BX := (Below.refl w2.heap.size w2).alloc (Nat.le_refl _) (.cells #[.int .i64 st, .slice vA vn vc] 24)
  have P3 := Lib.hid (PBox.new (w := w2) (st := st) (A := vA) (n := vn) (c := vc) w2.heap.size rfl)
  have J3 := Lib.hid ((J0.out.below B2 J0.out.lt).below BX (J0.out.below B2 J0.out.lt).lt)
  have Q3 := Lib.hid ((Q0.out.below B2 Q0.out.lt).below BX (Q0.out.below B2 Q0.out.lt).lt)
  have HB2 := HB.out.trans (B2.mono HB.out.size)
  have HB3 := Lib.hid (HB2.trans (BX.mono HB2.size))
  have OV3 := Lib.hid ((OV.base (show w1.heap.size ≤ w1.heap.size from Nat.le_refl _)).below BX)
  have hs12 : w1.heap.size ≤ w2.heap.size := B2.size
  have HR := Lib.hid hr
  clear j0 j1 jl J0 Q0 HB B2 OV hr BX HB2 HLE
  go_upto_region 2 with fail
  obtain ⟨g, hg⟩ : ∃ g, g = w2.heap.size := ⟨_, rfl⟩
  rw [← hg] at P3 hs12 ⊢
  generalize w2.alloc (.cells #[.int .i64 st, .slice vA vn vc] 24) = w3 at *
  clear hg
  obtain ⟨j0, j1, jl⟩ := J3.out
  obtain ⟨q0, q1, q2, qf, ql⟩ := Q3.out
  have f0 := qf 0
  have f1 := qf 1
  have f2 := qf 2
  clear qf
  by_cases he : er = 0
  · subst he
    go_wp2_with fail
    refine (HWI.out w3 HB3.out).mono ?_
    rintro e w4 ⟨u, er2, ch, rfl, OU, B4, hw⟩
    obtain ⟨he2, -⟩ := HR.out.wit hw
    have HW := Lib.hid hw
    subst he2
    obtain ⟨uA, uc, rfl, -, -, -, -⟩ := OU.slice
    obtain ⟨un, hun⟩ : ∃ n, n = ch.length := ⟨_, rfl⟩
    rw [← hun] at OU ⊢
    have Q4 := Lib.hid (Q3.out.below B4 Q3.out.lt)
    have P4 := Lib.hid (P3.out.below B4 P3.out.lt)
    have HB4 := Lib.hid (HB3.out.trans (B4.mono HB3.out.size))
    have OV4 := Lib.hid (OV3.out.below B4)
    have OU4 := Lib.hid (OU.base (show w1.heap.size ≤ w3.heap.size by have := P3.out.lt; omega))
    have PP := Lib.hid (Q4.out.put)
    clear q0 q1 q2 ql f0 f1 f2 j0 j1 jl B4 OU hw hun J3 Q3 P3 HB3 OV3
    obtain ⟨q0, q1, q2, qf, ql⟩ := Q4.out
    have f0 := qf 0
    have f1 := qf 1
    have f2 := qf 2
    clear qf
    obtain ⟨p0, p1, -, pl⟩ := P4.out
    go_wp2_with fail
    refine bodyPost_ret (results_proof rfl _ _ (b + 1) st 0 vA uA vn vc un uc rfl rfl (PP.out st vA vn vc uA un uc)) rfl ?_
    have hbw := HBQ.out
    have nv : ∀ q, (Value.slice vA vn vc).ownBlock = some q → q ≠ b + 1 := fun q e => by have := (own_block OV4.out e).1; omega
    have nu : ∀ q, (Value.slice uA un uc).ownBlock = some q → q ≠ b + 1 := fun q e => by have := (own_block OU4.out e).1; omega
    refine ⟨st, vA, vn, vc, uA, un, uc, 0, v, ch, rfl, ?_, ?_, ?_, ⟨HR.out, HW.out⟩⟩
    · exact ((((OV4.out.base (by omega)).setN (p := ⟨b + 1, 0, none⟩) nv _).setN (p := ⟨b + 1, 1, none⟩) nv _).setN (p := ⟨b + 1, 2, none⟩) nv _)
    · exact ((((OU4.out.base (by omega)).setN (p := ⟨b + 1, 0, none⟩) nu _).setN (p := ⟨b + 1, 1, none⟩) nu _).setN (p := ⟨b + 1, 2, none⟩) nu _)
    · exact ((HB4.out.setCell (p := ⟨b + 1, 0, none⟩) (by show w.heap.size ≤ b + 1; omega) _).setCell (p := ⟨b + 1, 1, none⟩) (by show w.heap.size ≤ b + 1; omega) _).setCell (p := ⟨b + 1, 2, none⟩) (by show w.heap.size ≤ b + 1; omega) _
  · have hne : (er != 0) = true := bne_iff_ne.2 he
    have PP := Lib.hid (Q3.out.put)
    have HWN := Lib.hid (HR.out.none he)
    have HE := Lib.hid he
    clear he
    go_wp2_with fail
    refine bodyPost_ret (results_proof rfl _ _ (b + 1) 0 er none none 0 0 0 0 rfl rfl (PP.out 0 none 0 0 none 0 0)) rfl ?_
    have hbw := HBQ.out
    obtain ⟨e1, e2, e3⟩ := HWN.out
    refine ⟨0, none, 0, 0, none, 0, 0, er, [], [], rfl, Own.nil, Own.nil, ?_, ⟨by have := HR.out; rwa [e1, e2] at this, e3⟩⟩
    exact ((HB3.out.setCell (p := ⟨b + 1, 0, none⟩) (by show w.heap.size ≤ b + 1; omega) _).setCell (p := ⟨b + 1, 1, none⟩) (by show w.heap.size ≤ b + 1; omega) _).setCell (p := ⟨b + 1, 2, none⟩) (by show w.heap.size ≤ b + 1; omega) _
end Go.Proofs.Ytlagadbkencpbaa

namespace Go.Proofs.Ytlagadbkencpbaa
open Go.RowKit Go.Lib

theorem ordA_pos {l : List It} {v : List Int} {x y : Nat} (h : rel l x y ≠ 0) : ordA l v x y = decide (v.getD x 0 + str1 l x y ≤ v.getD y 0) := by unfold ordA; rw [decide_eq_false h]; rfl
set_option maxRecDepth 100000 in
set_option maxHeartbeats 6400000 in
theorem rcheck_any (l : List It) (A : Option Addr) (c L : Nat) (wt st : Int) (v ch : List Int) (V : Option Addr) (n d : Nat) (C : Option Addr) (m e' : Nat) (hL : L = l.length) (hn : n = v.length) (hm : m = ch.length) (hvm : v.length ≤ maxLen) (hcm : ch.length ≤ maxLen) (w : World) (h : IRow w A l) (hr : Row .i64 w w.heap.size V v) (hc : Row .i64 w w.heap.size C ch) :
    Calls Try.prog 19 #[jv A L c wt, qv st V n d C m e'] w fun e w' => e = .returned (.int .i64 (chkE l wt st v ch)) ∧ Below w.heap.size w w' := by
  have B1 := (Below.refl w.heap.size w).alloc (Nat.le_refl _) (.cells #[.slice A L c, .int .i64 wt] 39)
  have s1 : (w.alloc (.cells #[.slice A L c, .int .i64 wt] 39)).heap.size = w.heap.size + 1 := by simp
  have b2 := (Below.refl (w.heap.size + 1) (w.alloc (.cells #[.slice A L c, .int .i64 wt] 39))).alloc (Nat.le_of_eq s1.symm) (qcells st V n d C m e')
  have J0 := Lib.hid ((JBox.new (w := w) (A := A) (n := L) (c := c) (wt := wt) w.heap.size rfl).below b2 (Nat.lt_succ_self _))
  have Q0 := QBox.new (w := w.alloc (.cells #[.slice A L c, .int .i64 wt] 39)) (st := st) (A := V) (n := n) (c := d) (B := C) (m := m) (d := e') (w.heap.size + 1) s1.symm
  have HB := B1.trans (b2.mono (Nat.le_succ _))
  have HV := Lib.hid (fun (W : World) (k : Below w.heap.size w W) => rval14_any l A c L wt st v V n d hL hn W (h.below k) (hr.below k) hvm)
  have HBO := Lib.hid (fun (W : World) (k : Below w.heap.size w W) => rbound_any l A C c e' L m wt hL ch hm (by rw [hm]; exact hcm) W (h.below k) (hc.below k))
  have HBB := Lib.hid (fun (hv : validR l wt = 0) (he : (boundE l wt ch).2 = 0) => bound_bd hv he)
  have HCE := Lib.hid (show chkE l wt st v ch = if val14 l wt st v ≠ 0 then val14 l wt st v else if ordB l v = false then 12 else if (boundE l wt ch).2 ≠ 0 then (boundE l wt ch).2 else if (stepsZ (boundE l wt ch).1).1 = st then 0 else 17 from rfl)
  have HOKK := Lib.hid (fun (hz : val14 l wt st v = 0) => val14_ok hz)
  have HI := Lib.hid (fun (W : World) (k : Below w.heap.size w W) => h.below k)
  have HR := Lib.hid (fun (W : World) (k : Below w.heap.size w W) => hr.below k)
  have HL := Lib.hid hL
  have HN := Lib.hid hn
  have HQ := Lib.hid Q0
  have HB := Lib.hid HB
  obtain ⟨b, hb⟩ : ∃ b, b = w.heap.size := ⟨_, rfl⟩
  clear h hr hc hL hn hm hvm hcm B1 s1 b2 Q0
  go_enter Try.func19, Try.ntmps19
  go_upto_region 1 with fail
  rw [← hb] at J0 HQ ⊢
  generalize (w.alloc (.cells #[.slice A L c, .int .i64 wt] 39)).alloc (qcells st V n d C m e') = w1 at *
  clear hb
  obtain ⟨j0, j1, jl⟩ := J0.out
  obtain ⟨q0, q1, q2, -, ql⟩ := HQ.out
  go_wp2_with fail
  refine (HV.out w1 HB.out).mono ?_
  rintro e w2 ⟨rfl, B2⟩
  have J2 := Lib.hid (J0.out.below B2 jl)
  have Q2 := Lib.hid (HQ.out.below B2 ql)
  have HB2 := Lib.hid (HB.out.trans (B2.mono HB.out.size))
  clear j0 j1 jl q0 q1 q2 ql J0 HQ HB B2 HV
  by_cases hz : val14 l wt st v = 0
  · obtain ⟨hva, -, hvl, hvb⟩ := HOKK.out hz
    have hnL : n = L := by rw [HN.out, hvl, HL.out]
    subst hnL
    have hl96 : n ≤ 96 := by rw [HL.out]; exact (valid_ok hva).1
    have HVA := Lib.hid hva
    have HVL := Lib.hid hvl
    have HVB := Lib.hid hvb
    have HE := Lib.hid (show chkE l wt st v ch = if ordB l v = false then 12 else if (boundE l wt ch).2 ≠ 0 then (boundE l wt ch).2 else if (stepsZ (boundE l wt ch).1).1 = st then 0 else 17 by rw [HCE.out, if_neg (fun g => g hz)])
    have HKI := Lib.hid (fun (x y : Nat) (hx : x < n) (hy : y < n) (W : World) (k : IRow W A l) => kind_any l A c wt x y (by rw [← HL.out]; exact hx) (by rw [← HL.out]; exact hy) W k)
    have HSI := Lib.hid (fun (x y : Nat) (hx : x < n) (hy : y < n) (W : World) (k : IRow W A l) => strict_any l A c wt x y (by rw [← HL.out]; exact hx) (by rw [← HL.out]; exact hy) W k)
    rw [← HL.out] at HKI HSI
    rw [hz]
    obtain ⟨q0, q1, q2, -, ql⟩ := Q2.out
    clear hz HCE hva hvl hvb HOKK
    go_wp2_with fail
    clear q0 q1 q2 ql
    go_loopw [7] (fun iv wr => ∃ x : Nat, x ≤ n ∧ iv = .int .i64 (x : Int) ∧ Hid (∀ a, a < x → ∀ b, b < n → ordA l v a b = true) ∧ Hid (Below w2.heap.size w2 wr)) (fun iv _ => n - (intOf iv).toNat)
    case atStart => exact ⟨0, by omega, rfl, Lib.hid (fun x hx => absurd hx (Nat.not_lt_zero _)), Lib.hid (Below.refl _ _)⟩
    case round =>
      obtain ⟨x, hx, rfl, F, BB⟩ := hrel
      by_cases hlx : x < n
      · have hxi : (x : Int) < (n : Int) := by omega
        go_wp2_with fail
        generalize wr = wo at *
        go_loopw [8] (fun iv wr => ∃ y : Nat, y ≤ n ∧ iv = .int .i64 (y : Int) ∧ Hid (∀ b, b < y → ordA l v x b = true) ∧ Hid (Below w2.heap.size w2 wr)) (fun iv _ => n - (intOf iv).toNat)
        case atStart => exact ⟨0, by omega, rfl, Lib.hid (fun x hx => absurd hx (Nat.not_lt_zero _)), BB⟩
        case round =>
          clear BB
          obtain ⟨y, hy, rfl, G, BB⟩ := hrel
          by_cases hly : y < n
          · have hyi : (y : Int) < (n : Int) := by omega
            have BW := Lib.hid (HB2.out.trans (BB.out.mono HB2.out.size))
            have HIR := Lib.hid (HI.out wr BW.out)
            obtain ⟨pad, rfl, -, cx⟩ := (HR.out wr BW.out) x (by rw [← HN.out]; exact hlx)
            obtain ⟨pad', e2, -, cy⟩ := (HR.out wr BW.out) y (by rw [← HN.out]; exact hly)
            obtain rfl : pad = pad' := by injection e2
            obtain ⟨j0, j1, jl⟩ := J2.out.below BB.out J2.out.lt
            have hsb : 0 ≤ str1 l x y ∧ str1 l x y ≤ 1 := by unfold str1; split <;> omega
            have hvx := HVB.out x (by rw [← HL.out]; exact hlx)
            have hvy := HVB.out y (by rw [← HL.out]; exact hly)
            have HK1 := Lib.hid (fun W k => HKI.out x y hlx hly W k)
            have HS1 := Lib.hid (fun W k => HSI.out x y hlx hly W k)
            have HZ0 := Lib.hid (fun q => ordA_zero (v := v) (x := x) (y := y) (l := l) q)
            have HP0 := Lib.hid (fun q => ordA_pos (v := v) (x := x) (y := y) (l := l) q)
            have HNO := Lib.hid (fun q => ordB_no (l := l) (v := v) (x := x) (y := y) (by rw [← HL.out]; exact hlx) (by rw [← HL.out]; exact hly) q)
            have HG := Lib.hid (fun (q : ordA l v x y = true) => show ∀ b, b < y + 1 → ordA l v x b = true from fun b hb => by
              rcases Nat.lt_or_ge b y with r | r
              · exact G.out b r
              · obtain rfl : b = y := by omega
                exact q)
            have hrc := rel_cases l x y
            obtain ⟨r, hr⟩ : ∃ r, r = rel l x y := ⟨_, rfl⟩
            obtain ⟨s1, hs1⟩ : ∃ r, r = str1 l x y := ⟨_, rfl⟩
            obtain ⟨ux, hux⟩ : ∃ r, r = v.getD x 0 := ⟨_, rfl⟩
            obtain ⟨uy, huy⟩ : ∃ r, r = v.getD y 0 := ⟨_, rfl⟩
            rw [← hr] at HK1 HZ0 HP0 hrc
            rw [← hs1] at HS1 HP0 hsb
            rw [← hux] at cx HP0 hvx
            rw [← huy] at cy HP0 hvy
            have ltx := lt_of_cell cx
            have lty := lt_of_cell cy
            have HPS := Lib.hid (fun (X : World) (hX : Below wr.heap.size wr X) => (show X.cell? ⟨b, 0, none⟩ = some (.slice A n c) ∧ X.cell? ⟨b, 1, none⟩ = some (.int .i64 wt) ∧ X.cell? (pad.add x) = some (.int .i64 ux) ∧ X.cell? (pad.add y) = some (.int .i64 uy) from
              ⟨(hX.cell (p := ⟨b, 0, none⟩) jl).trans j0, (hX.cell (p := ⟨b, 1, none⟩) jl).trans j1, (hX.cell ltx).trans cx, (hX.cell lty).trans cy⟩))
            have HIW := Lib.hid (fun (X : World) (hX : Below wr.heap.size wr X) => HIR.out.below hX)
            clear e2 hr hs1 hux huy ltx lty
            go_upto_region 11 with fail
            clear j0 j1 jl cx cy
            obtain ⟨q0, e0⟩ : ∃ x, x = wr.drew := ⟨_, rfl⟩
            have K0 := Lib.hid (show Below wr.heap.size wr q0 from by rw [e0]; exact (Below.refl _ _).drew)
            have F0 := HPS.out q0 K0.out
            have HE0 := Lib.hid e0
            clear e0
            refine AnyT.begin_at tlN (fun X => X.cell? ⟨b, 0, none⟩ = some (.slice A n c) ∧ X.cell? ⟨b, 1, none⟩ = some (.int .i64 wt) ∧ X.cell? (pad.add x) = some (.int .i64 ux) ∧ X.cell? (pad.add y) = some (.int .i64 uy)) (by kernel_rfl) HE0.out F0 ?_
            clear F0
            intro F0
            refine AnyT.takeD (i := 0) (d := some 33) (v := jv A n c wt) rfl rfl (by kernel_rfl) (by kernel_rfl) (by kernel_rfl) (by kernel_rfl) (fun _ _ _ h => h) (Or.inl ⟨by rfl, fun wz hz => by obtain ⟨z0, z1, z2, z3⟩ := hz; go_simp⟩) F0 ?_
            simp only [Act.put, List.setIfInBounds_toArray, List.set_cons_zero, List.set_cons_succ]
            refine AnyT.takeD (i := 1) (d := some 34) (v := .int .i64 (x : Int)) rfl rfl (by kernel_rfl) (by kernel_rfl) (by kernel_rfl) (by kernel_rfl) (fun _ _ _ h => h) (Or.inl ⟨by rfl, fun wz _ => by go_simp⟩) F0 ?_
            simp only [Act.put, List.setIfInBounds_toArray, List.set_cons_zero, List.set_cons_succ]
            refine AnyT.takeD (i := 2) (d := some 35) (v := .int .i64 (y : Int)) rfl rfl (by kernel_rfl) (by kernel_rfl) (by kernel_rfl) (by kernel_rfl) (fun _ _ _ h => h) (Or.inl ⟨by rfl, fun wz _ => by go_simp⟩) F0 ?_
            simp only [Act.put, List.setIfInBounds_toArray, List.set_cons_zero, List.set_cons_succ]
            refine AnyT.branch (rs := [3]) (by kernel_rfl) (by simp) ?_
            refine all_cons (?_) all_nil
            refine AnyT.enter (i := 3) (d := some 36) (f := 28) (args := #[jv A n c wt, .int .i64 (x : Int), .int .i64 (y : Int)]) rfl rfl rfl (by go_simp) (HK1.out q0 (HIW.out q0 K0.out)) ?_
            rintro e q1 ⟨rfl, hB1⟩
            have K1 := Lib.hid (K0.out.trans (hB1.mono K0.out.size))
            have F1 := HPS.out q1 K1.out
            refine ⟨_, rfl, fun _ => F1, ?_⟩
            clear hB1 F0 HK1
            simp only [Act.put, List.setIfInBounds_toArray, List.set_cons_zero, List.set_cons_succ]
            by_cases hr0 : r = 0
            · subst hr0
              have BZ := Lib.hid (BB.out.trans (K1.out.mono BB.out.size))
              have HG2 := Lib.hid (HG.out (HZ0.out rfl))
              refine AnyT.takeD (i := 4) (d := some 37) (v := .bool false) rfl rfl (by kernel_rfl) (by kernel_rfl) (by kernel_rfl) (by kernel_rfl) (fun _ _ _ h => h) (Or.inl ⟨by rfl, fun wz _ => by go_simp⟩) F1 ?_
              simp only [Act.put, List.setIfInBounds_toArray, List.set_cons_zero, List.set_cons_succ]
              refine AnyT.takeD (i := 5) (d := some 38) (v := .bool false) rfl rfl (by kernel_rfl) (by kernel_rfl) (by kernel_rfl) (by kernel_rfl) (fun _ _ _ h => h) (Or.inl ⟨by rfl, fun wz _ => by go_simp⟩) F1 ?_
              simp only [Act.put, List.setIfInBounds_toArray, List.set_cons_zero, List.set_cons_succ]
              refine AnyT.takeD (i := 6) (d := some 39) (v := undef) rfl rfl (by kernel_rfl) (by kernel_rfl) (by kernel_rfl) (by kernel_rfl) (fun _ _ _ h => h) (Or.inr ⟨by rfl, rfl⟩) F1 ?_
              simp only [Act.put, List.setIfInBounds_toArray, List.set_cons_zero, List.set_cons_succ]
              refine AnyT.takeD (i := 7) (d := some 40) (v := undef) rfl rfl (by kernel_rfl) (by kernel_rfl) (by kernel_rfl) (by kernel_rfl) (fun _ _ _ h => h) (Or.inr ⟨by rfl, rfl⟩) F1 ?_
              simp only [Act.put, List.setIfInBounds_toArray, List.set_cons_zero, List.set_cons_succ]
              refine AnyT.takeD (i := 8) (d := some 41) (v := undef) rfl rfl (by kernel_rfl) (by kernel_rfl) (by kernel_rfl) (by kernel_rfl) (fun _ _ _ h => h) (Or.inr ⟨by rfl, rfl⟩) F1 ?_
              simp only [Act.put, List.setIfInBounds_toArray, List.set_cons_zero, List.set_cons_succ]
              refine AnyT.takeD (i := 9) (d := some 42) (v := undef) rfl rfl (by kernel_rfl) (by kernel_rfl) (by kernel_rfl) (by kernel_rfl) (fun _ _ _ h => h) (Or.inr ⟨by rfl, rfl⟩) F1 ?_
              simp only [Act.put, List.setIfInBounds_toArray, List.set_cons_zero, List.set_cons_succ]
              refine AnyT.takeD (i := 10) (d := some 43) (v := undef) rfl rfl (by kernel_rfl) (by kernel_rfl) (by kernel_rfl) (by kernel_rfl) (fun _ _ _ h => h) (Or.inr ⟨by rfl, rfl⟩) F1 ?_
              simp only [Act.put, List.setIfInBounds_toArray, List.set_cons_zero, List.set_cons_succ]
              refine AnyT.takeD (i := 11) (d := some 44) (v := undef) rfl rfl (by kernel_rfl) (by kernel_rfl) (by kernel_rfl) (by kernel_rfl) (fun _ _ _ h => h) (Or.inr ⟨by rfl, rfl⟩) F1 ?_
              simp only [Act.put, List.setIfInBounds_toArray, List.set_cons_zero, List.set_cons_succ]
              refine AnyT.takeD (i := 12) (d := some 45) (v := undef) rfl rfl (by kernel_rfl) (by kernel_rfl) (by kernel_rfl) (by kernel_rfl) (fun _ _ _ h => h) (Or.inr ⟨by rfl, rfl⟩) F1 ?_
              simp only [Act.put, List.setIfInBounds_toArray, List.set_cons_zero, List.set_cons_succ]
              refine AnyT.takeD (i := 13) (d := some 46) (v := undef) rfl rfl (by kernel_rfl) (by kernel_rfl) (by kernel_rfl) (by kernel_rfl) (fun _ _ _ h => h) (Or.inr ⟨by rfl, rfl⟩) F1 ?_
              simp only [Act.put, List.setIfInBounds_toArray, List.set_cons_zero, List.set_cons_succ]
              refine AnyT.takeD (i := 14) (d := some 47) (v := undef) rfl rfl (by kernel_rfl) (by kernel_rfl) (by kernel_rfl) (by kernel_rfl) (fun _ _ _ h => h) (Or.inr ⟨by rfl, rfl⟩) F1 ?_
              simp only [Act.put, List.setIfInBounds_toArray, List.set_cons_zero, List.set_cons_succ]
              refine AnyT.takeD (i := 15) (d := some 48) (v := undef) rfl rfl (by kernel_rfl) (by kernel_rfl) (by kernel_rfl) (by kernel_rfl) (fun _ _ _ h => h) (Or.inr ⟨by rfl, rfl⟩) F1 ?_
              simp only [Act.put, List.setIfInBounds_toArray, List.set_cons_zero, List.set_cons_succ]
              refine AnyT.takeD (i := 16) (d := some 49) (v := undef) rfl rfl (by kernel_rfl) (by kernel_rfl) (by kernel_rfl) (by kernel_rfl) (fun _ _ _ h => h) (Or.inr ⟨by rfl, rfl⟩) F1 ?_
              simp only [Act.put, List.setIfInBounds_toArray, List.set_cons_zero, List.set_cons_succ]
              refine AnyT.takeD (i := 17) (d := some 50) (v := undef) rfl rfl (by kernel_rfl) (by kernel_rfl) (by kernel_rfl) (by kernel_rfl) (fun _ _ _ h => h) (Or.inr ⟨by rfl, rfl⟩) F1 ?_
              simp only [Act.put, List.setIfInBounds_toArray, List.set_cons_zero, List.set_cons_succ]
              refine AnyT.takeD (i := 18) (d := some 51) (v := undef) rfl rfl (by kernel_rfl) (by kernel_rfl) (by kernel_rfl) (by kernel_rfl) (fun _ _ _ h => h) (Or.inr ⟨by rfl, rfl⟩) F1 ?_
              simp only [Act.put, List.setIfInBounds_toArray, List.set_cons_zero, List.set_cons_succ]
              refine AnyT.takeD (i := 19) (d := some 52) (v := undef) rfl rfl (by kernel_rfl) (by kernel_rfl) (by kernel_rfl) (by kernel_rfl) (fun _ _ _ h => h) (Or.inr ⟨by rfl, rfl⟩) F1 ?_
              simp only [Act.put, List.setIfInBounds_toArray, List.set_cons_zero, List.set_cons_succ]
              refine AnyT.takeD (i := 20) (d := some 53) (v := .bool false) rfl rfl (by kernel_rfl) (by kernel_rfl) (by kernel_rfl) (by kernel_rfl) (fun _ _ _ h => h) (Or.inl ⟨by rfl, fun wz _ => by go_simp⟩) F1 ?_
              simp only [Act.put, List.setIfInBounds_toArray, List.set_cons_zero, List.set_cons_succ]
              refine AnyT.done_ (by kernel_rfl) ?_ _
              clear F1 HPS HE0 K0 K1 HIW HS1 HP0 HZ0 HNO HG
              go_wp2_with fail
              go_roundw
              case rel => exact ⟨y + 1, by omega, by go_num, HG2, BZ⟩
              case measure => simp [intOf]; omega
            · have hrp : (0 : Int) < r := by omega
              refine AnyT.takeD (i := 4) (d := some 37) (v := .bool true) rfl rfl (by kernel_rfl) (by kernel_rfl) (by kernel_rfl) (by kernel_rfl) (fun _ _ _ h => h) (Or.inl ⟨by rfl, fun wz _ => by go_simp⟩) F1 ?_
              simp only [Act.put, List.setIfInBounds_toArray, List.set_cons_zero, List.set_cons_succ]
              refine AnyT.takeD (i := 5) (d := some 38) (v := .bool true) rfl rfl (by kernel_rfl) (by kernel_rfl) (by kernel_rfl) (by kernel_rfl) (fun _ _ _ h => h) (Or.inl ⟨by rfl, fun wz _ => by go_simp⟩) F1 ?_
              simp only [Act.put, List.setIfInBounds_toArray, List.set_cons_zero, List.set_cons_succ]
              refine AnyT.takeD (i := 6) (d := some 39) (v := .slice (some pad) n d) rfl rfl (by kernel_rfl) (by kernel_rfl) (by kernel_rfl) (by kernel_rfl) (fun _ _ _ h => h) (Or.inl ⟨by rfl, fun wz _ => by go_simp⟩) F1 ?_
              simp only [Act.put, List.setIfInBounds_toArray, List.set_cons_zero, List.set_cons_succ]
              refine AnyT.takeD (i := 7) (d := some 40) (v := .int .i64 (x : Int)) rfl rfl (by kernel_rfl) (by kernel_rfl) (by kernel_rfl) (by kernel_rfl) (fun _ _ _ h => h) (Or.inl ⟨by rfl, fun wz _ => by go_simp⟩) F1 ?_
              simp only [Act.put, List.setIfInBounds_toArray, List.set_cons_zero, List.set_cons_succ]
              refine AnyT.takeD (i := 8) (d := some 41) (v := .pointer (some (pad.add x))) rfl rfl (by kernel_rfl) (by kernel_rfl) (by kernel_rfl) (by kernel_rfl) (fun _ _ _ h => h) (Or.inl ⟨by rfl, fun wz _ => by go_simp⟩) F1 ?_
              simp only [Act.put, List.setIfInBounds_toArray, List.set_cons_zero, List.set_cons_succ]
              refine AnyT.takeD (i := 9) (d := some 42) (v := .int .i64 ux) rfl rfl (by kernel_rfl) (by kernel_rfl) (by kernel_rfl) (by kernel_rfl) (fun _ _ _ h => h) (Or.inl ⟨by rfl, fun wz hz => by obtain ⟨z0, z1, z2, z3⟩ := hz; go_simp⟩) F1 ?_
              simp only [Act.put, List.setIfInBounds_toArray, List.set_cons_zero, List.set_cons_succ]
              refine AnyT.takeD (i := 10) (d := some 43) (v := jv A n c wt) rfl rfl (by kernel_rfl) (by kernel_rfl) (by kernel_rfl) (by kernel_rfl) (fun _ _ _ h => h) (Or.inl ⟨by rfl, fun wz hz => by obtain ⟨z0, z1, z2, z3⟩ := hz; go_simp⟩) F1 ?_
              simp only [Act.put, List.setIfInBounds_toArray, List.set_cons_zero, List.set_cons_succ]
              refine AnyT.takeD (i := 11) (d := some 44) (v := .int .i64 (x : Int)) rfl rfl (by kernel_rfl) (by kernel_rfl) (by kernel_rfl) (by kernel_rfl) (fun _ _ _ h => h) (Or.inl ⟨by rfl, fun wz _ => by go_simp⟩) F1 ?_
              simp only [Act.put, List.setIfInBounds_toArray, List.set_cons_zero, List.set_cons_succ]
              refine AnyT.takeD (i := 12) (d := some 45) (v := .int .i64 (y : Int)) rfl rfl (by kernel_rfl) (by kernel_rfl) (by kernel_rfl) (by kernel_rfl) (fun _ _ _ h => h) (Or.inl ⟨by rfl, fun wz _ => by go_simp⟩) F1 ?_
              simp only [Act.put, List.setIfInBounds_toArray, List.set_cons_zero, List.set_cons_succ]
              refine AnyT.takeD (i := 15) (d := some 48) (v := .slice (some pad) n d) rfl rfl (by kernel_rfl) (by kernel_rfl) (by kernel_rfl) (by kernel_rfl) (fun _ _ _ h => h) (Or.inl ⟨by rfl, fun wz _ => by go_simp⟩) F1 ?_
              simp only [Act.put, List.setIfInBounds_toArray, List.set_cons_zero, List.set_cons_succ]
              refine AnyT.takeD (i := 16) (d := some 49) (v := .int .i64 (y : Int)) rfl rfl (by kernel_rfl) (by kernel_rfl) (by kernel_rfl) (by kernel_rfl) (fun _ _ _ h => h) (Or.inl ⟨by rfl, fun wz _ => by go_simp⟩) F1 ?_
              simp only [Act.put, List.setIfInBounds_toArray, List.set_cons_zero, List.set_cons_succ]
              refine AnyT.takeD (i := 17) (d := some 50) (v := .pointer (some (pad.add y))) rfl rfl (by kernel_rfl) (by kernel_rfl) (by kernel_rfl) (by kernel_rfl) (fun _ _ _ h => h) (Or.inl ⟨by rfl, fun wz _ => by go_simp⟩) F1 ?_
              simp only [Act.put, List.setIfInBounds_toArray, List.set_cons_zero, List.set_cons_succ]
              refine AnyT.takeD (i := 18) (d := some 51) (v := .int .i64 uy) rfl rfl (by kernel_rfl) (by kernel_rfl) (by kernel_rfl) (by kernel_rfl) (fun _ _ _ h => h) (Or.inl ⟨by rfl, fun wz hz => by obtain ⟨z0, z1, z2, z3⟩ := hz; go_simp⟩) F1 ?_
              simp only [Act.put, List.setIfInBounds_toArray, List.set_cons_zero, List.set_cons_succ]
              refine AnyT.branch (rs := [13]) (by kernel_rfl) (by simp) ?_
              refine all_cons (?_) all_nil
              refine AnyT.enterG (i := 13) (d := some 46) (f := 29) (args := #[jv A n c wt, .int .i64 (x : Int), .int .i64 (y : Int)]) rfl (by rfl) rfl (by go_simp) (HS1.out q1 (HIW.out q1 K1.out)) ?_
              rintro e q2 ⟨rfl, hB2⟩
              have K2 := Lib.hid (K1.out.trans (hB2.mono K1.out.size))
              have F2 := HPS.out q2 K2.out
              refine ⟨_, rfl, fun _ => F2, ?_⟩
              clear hB2 F1 HS1
              simp only [Act.put, List.setIfInBounds_toArray, List.set_cons_zero, List.set_cons_succ]
              have BZ := Lib.hid (BB.out.trans (K2.out.mono BB.out.size))
              have hwr : IntKind.i64.wrap (ux + s1) = ux + s1 := IntWalk.i64_in _ (by omega)
              by_cases hgt : uy < ux + s1
              · have HNN := Lib.hid (HNO.out (by rw [HP0.out hr0, decide_eq_false (by omega)]))
                have HEE := Lib.hid (show chkE l wt st v ch = 12 by rw [HE.out, if_pos HNN.out])
                refine AnyT.takeD (i := 14) (d := some 47) (v := .int .i64 (ux + s1)) rfl rfl (by kernel_rfl) (by kernel_rfl) (by kernel_rfl) (by kernel_rfl) (fun _ _ _ h => h) (Or.inl ⟨by rfl, fun wz _ => by go_simp⟩) F2 ?_
                simp only [Act.put, List.setIfInBounds_toArray, List.set_cons_zero, List.set_cons_succ]
                refine AnyT.takeD (i := 19) (d := some 52) (v := .bool true) rfl rfl (by kernel_rfl) (by kernel_rfl) (by kernel_rfl) (by kernel_rfl) (fun _ _ _ h => h) (Or.inl ⟨by rfl, fun wz _ => by go_simp⟩) F2 ?_
                simp only [Act.put, List.setIfInBounds_toArray, List.set_cons_zero, List.set_cons_succ]
                refine AnyT.takeD (i := 20) (d := some 53) (v := .bool true) rfl rfl (by kernel_rfl) (by kernel_rfl) (by kernel_rfl) (by kernel_rfl) (fun _ _ _ h => h) (Or.inl ⟨by rfl, fun wz _ => by go_simp⟩) F2 ?_
                simp only [Act.put, List.setIfInBounds_toArray, List.set_cons_zero, List.set_cons_succ]
                refine AnyT.done_ (by kernel_rfl) ?_ _
                clear F2 HPS HE0 K0 K1 K2 HIW hrp hr0 hgt hwr HP0 HZ0 HNO HG
                go_wp2_with fail
                go_ret
                exact ⟨ret_int HEE.out.symm, HB2.out.trans (BZ.out.mono HB2.out.size)⟩
              · have HG2 := Lib.hid (HG.out (by rw [HP0.out hr0, decide_eq_true (by omega)]))
                refine AnyT.takeD (i := 14) (d := some 47) (v := .int .i64 (ux + s1)) rfl rfl (by kernel_rfl) (by kernel_rfl) (by kernel_rfl) (by kernel_rfl) (fun _ _ _ h => h) (Or.inl ⟨by rfl, fun wz _ => by go_simp⟩) F2 ?_
                simp only [Act.put, List.setIfInBounds_toArray, List.set_cons_zero, List.set_cons_succ]
                refine AnyT.takeD (i := 19) (d := some 52) (v := .bool false) rfl rfl (by kernel_rfl) (by kernel_rfl) (by kernel_rfl) (by kernel_rfl) (fun _ _ _ h => h) (Or.inl ⟨by rfl, fun wz _ => by go_simp⟩) F2 ?_
                simp only [Act.put, List.setIfInBounds_toArray, List.set_cons_zero, List.set_cons_succ]
                refine AnyT.takeD (i := 20) (d := some 53) (v := .bool false) rfl rfl (by kernel_rfl) (by kernel_rfl) (by kernel_rfl) (by kernel_rfl) (fun _ _ _ h => h) (Or.inl ⟨by rfl, fun wz _ => by go_simp⟩) F2 ?_
                simp only [Act.put, List.setIfInBounds_toArray, List.set_cons_zero, List.set_cons_succ]
                refine AnyT.done_ (by kernel_rfl) ?_ _
                clear F2 HPS HE0 K0 K1 K2 HIW hrp hr0 hgt hwr HP0 HZ0 HNO HG
                go_wp2_with fail
                go_roundw
                case rel => exact ⟨y + 1, by omega, by go_num, HG2, BZ⟩
                case measure => simp [intOf]; omega
          · obtain rfl : y = n := by omega
            have HF := Lib.hid (show ∀ a, a < x + 1 → ∀ b, b < y → ordA l v a b = true from fun a ha b hb => by
              rcases Nat.lt_or_ge a x with r | r
              · exact F.out a r b hb
              · obtain rfl : a = x := by omega
                exact G.out b hb)
            clear G F
            go_wp2_with fail
            go_roundw
            case rel => exact ⟨x + 1, by omega, by go_num, HF, BB⟩
            case measure => simp [intOf]; omega
      · obtain rfl : x = n := by omega
        have HT := Lib.hid (show ordB l v = true from ordB_iff.2 fun a ha b hb => F.out a (by rw [HL.out]; exact ha) b (by rw [HL.out]; exact hb))
        have HE2 := Lib.hid (show chkE l wt st v ch = if (boundE l wt ch).2 ≠ 0 then (boundE l wt ch).2 else if (stepsZ (boundE l wt ch).1).1 = st then 0 else 17 by rw [HE.out, if_neg (by rw [HT.out]; exact Bool.noConfusion)])
        have BW := Lib.hid (HB2.out.trans (BB.out.mono HB2.out.size))
        have J3 := Lib.hid (J2.out.below BB.out J2.out.lt)
        have Q3 := Lib.hid (Q2.out.below BB.out Q2.out.lt)
        have HX := Lib.hid (HBO.out wr BW.out)
        have HBD := Lib.hid (HBB.out HVA.out)
        clear F HE HT HKI HSI HBO HBB hx hlx
        obtain ⟨⟨ba, be⟩, hbd⟩ : ∃ t, t = boundE l wt ch := ⟨_, rfl⟩
        rw [← hbd] at HE2 HX HBD
        clear hbd
        obtain ⟨j0, j1, jl⟩ := J3.out
        obtain ⟨q0, q1, q2, -, ql⟩ := Q3.out
        go_wp2_with fail
        refine HX.out.mono ?_
        rintro e w4 ⟨rfl, B4⟩
        have Q4 := Lib.hid (Q3.out.below B4 ql)
        have HB4 := Lib.hid (BW.out.trans (B4.mono BW.out.size))
        clear j0 j1 jl q0 q1 q2 ql J3 Q3 BW B4 HX
        obtain ⟨q0, q1, q2, -, ql⟩ := Q4.out
        by_cases hbe : be = 0
        · subst hbe
          obtain ⟨hb0, hb1⟩ := HBD.out rfl
          replace hb0 : 0 ≤ ba := hb0
          replace hb1 : ba ≤ 4095 := hb1
          obtain ⟨K, rfl⟩ := Int.eq_ofNat_of_zero_le hb0
          have HE3 := Lib.hid (show chkE l wt st v ch = if (ln K : Int) = st then 0 else 17 by
            rw [HE2.out, if_neg (fun g => g rfl)]
            show (if (stepsZ (K : Int)).1 = st then _ else _) = _
            rw [stepsZ_nat (by omega)])
          have HLO := Lib.hid (fun W => long_any K W (by omega))
          obtain ⟨lk, hlk⟩ : ∃ z : Int, z = (ln K : Int) := ⟨_, rfl⟩
          rw [← hlk] at HE3 HLO
          clear HE2 HBD hlk hb0
          by_cases hs : lk = st
          · have HEE := Lib.hid (show chkE l wt st v ch = 0 by rw [HE3.out, if_pos hs])
            subst hs
            have hss : (lk != lk) = false := by simp
            go_wp2_with fail
            go_quiet ((go_at_call 47; exact Calls.quiet_of_same ((HLO.out _).mono fun _ _ h => ⟨h.1, h.2.symm⟩)))
            go_wp2_with fail
            go_ret
            exact ⟨ret_int HEE.out.symm, bdn HB4.out⟩
          · have HEE := Lib.hid (show chkE l wt st v ch = 17 by rw [HE3.out, if_neg hs])
            have hss : (lk != st) = true := bne_iff_ne.2 hs
            go_wp2_with fail
            go_quiet ((go_at_call 47; exact Calls.quiet_of_same ((HLO.out _).mono fun _ _ h => ⟨h.1, h.2.symm⟩)))
            go_wp2_with fail
            go_ret
            exact ⟨ret_int HEE.out.symm, bdn HB4.out⟩
        · have HE3 := Lib.hid (show chkE l wt st v ch = be by rw [HE2.out, if_pos hbe])
          have hne : (be != 0) = true := bne_iff_ne.2 hbe
          clear hbe HE2 HBD
          go_wp2_with fail
          go_ret
          exact ⟨ret_int HE3.out.symm, HB4.out⟩
  · have HE := Lib.hid (show chkE l wt st v ch = val14 l wt st v by rw [HCE.out, if_pos hz])
    have hne : (val14 l wt st v != 0) = true := bne_iff_ne.2 hz
    generalize val14 l wt st v = er at *
    clear hz HCE HOKK
    go_wp2_with fail
    go_ret
    exact ⟨ret_int HE.out.symm, HB2.out⟩
end Go.Proofs.Ytlagadbkencpbaa

namespace Go.Proofs.Ytlagadbkencpbaa
open Go.RowKit Go.ChangeShapes Go.WideShapes Go.ChangeAt

section
variable {H : Type} {enc : TypeId × Value → H} {P : Program} {w : World} {base : Nat} {held : Bool}
theorem open_isl {t e : TypeId} {fuel : Nat} {v : Value} {x : DataW H × List MemPlace} (ht : P.underlying t = some (.slice e)) (he : P.underlying e = some (.int .i64)) (hc : P.cellsOf e = 1) (be : P.bytesOf e = 8)
    (h : DataW.trod enc P w base (fun _ => true) held fuel t [v] = some x) (hz : (x.1.weights P t).all (· ≤ reachBytes) = true) : ∃ A len cap zs, v = .slice A len cap ∧ IsRow .i64 w A len cap zs ∧ len ≤ 140737488355328 := by
  rcases open_ints ht he hc h with ⟨hcs, _⟩ | ⟨a, l, c, zs, hcs, _, hl, hm, hzl, hd, hcell, hwz⟩
  · injection hcs with h0
    exact ⟨none, 0, 0, [], h0, .inl ⟨rfl, rfl, rfl, rfl⟩, by decide⟩
  · injection hcs with h0
    have hzc : zs.length = c := by simpa using hzl
    refine ⟨some a, l, c, zs, h0, .inr ⟨_, rfl, hl, hm, hzc, hcell, hwz⟩, ?_⟩
    subst hd
    have := List.all_eq_true.1 hz ((lits (H := H) .i64 (zs.take l)).length * 8 + (lits (H := H) .i64 (zs.drop l)).length * 8) (by simp [DataW.weights, ht, be, Nat.add_mul])
    simp only [lits, List.length_map, List.length_take, List.length_drop, decide_eq_true_eq] at this
    have hr := reachBytes_lt
    omega
theorem open_proof {r : Reach} {b0 : Nat} {t e : TypeId} {h0 h1 f0 f1 : Field} {v : Value} {d : DataW H} {p : List MemPlace} (ht : P.underlying t = some (.struct #[h0, h1])) (ct : P.cellsOf t = 3) (q0 : h0.offset = 0) (q1 : h1.offset = 2)
    (hp : P.underlying h0.type = some (.struct #[f0, f1])) (cp : P.cellsOf h0.type = 2) (o0 : f0.offset = 0) (o1 : f1.offset = 1) (u0 : P.underlying f0.type = some (.int .i64)) (s1 : P.underlying f1.type = some (.slice e)) (d0 : P.cellsOf f0.type = 1) (d1 : P.cellsOf f1.type = 1)
    (s2 : P.underlying h1.type = some (.slice e)) (c1 : P.cellsOf h1.type = 1) (he : P.underlying e = some (.int .i64)) (ce : P.cellsOf e = 1) (be : P.bytesOf e = 8)
    (hv : Value.okWide P w r b0 t v) (h : DataW.Trod enc P w base (fun _ => true) held t v d p) (hz : (d.weights P t).all (· ≤ reachBytes) = true) :
    ∃ st A n c B m dd zs us, v = .agg #[.int .i64 st, .slice A n c, .slice B m dd] ∧ (IsRow .i64 w A n c zs ∧ n ≤ 140737488355328) ∧ (IsRow .i64 w B m dd us ∧ m ≤ 140737488355328) := by
  obtain ⟨cs, rfl, hsz⟩ := okWide_struct ht hv
  rw [ct] at hsz
  obtain ⟨fuel, h⟩ := h
  obtain ⟨ll⟩ := cs
  match ll, hsz with
  | [v0, v1, v2], _ =>
    obtain ⟨xs, n, _, hx, _, hlen, hf⟩ := DataW.trod_struct ht h
    match xs, hlen with
    | [y0, y1], _ =>
      have t0 := hf 0 h0 rfl
      have t1 := hf 1 h1 rfl
      simp [Value.cells, q0, q1, cp, c1] at t0 t1
      have hd := congrArg Prod.fst hx
      simp only at hd
      subst hd
      have hz0 : (y0.1.weights P h0.type).all (· ≤ reachBytes) = true := List.all_eq_true.2 fun k hk => List.all_eq_true.1 hz k (by simp [DataW.weights, ht, DataW.weightsEach, hk])
      have hz1 : (y1.1.weights P h1.type).all (· ≤ reachBytes) = true := List.all_eq_true.2 fun k hk => List.all_eq_true.1 hz k (by simp [DataW.weights, ht, DataW.weightsEach, hk])
      obtain ⟨zs, n2, _, hx2, _, hlen2, hf2⟩ := DataW.trod_struct hp t0
      match zs, hlen2 with
      | [w0, w1], _ =>
        have g0 := hf2 0 f0 rfl
        have g1 := hf2 1 f1 rfl
        simp [o0, o1, d0, d1] at g0 g1
        have hd2 := congrArg Prod.fst hx2
        simp only at hd2
        have hzw : (w1.1.weights P f1.type).all (· ≤ reachBytes) = true := List.all_eq_true.2 fun k hk => List.all_eq_true.1 hz0 k (by rw [hd2]; simp [DataW.weights, hp, DataW.weightsEach, hk])
        obtain ⟨a0, e0, _, _⟩ := DataW.trod_int u0 g0
        simp at e0
        subst e0
        obtain ⟨A, len, cap, zs1, rfl, r1, b1⟩ := open_isl s1 he ce be g1 hzw
        obtain ⟨B, len2, cap2, zs2, rfl, r2, b2⟩ := open_isl s2 he ce be t1 hz1
        exact ⟨a0, A, len, cap, B, len2, cap2, zs1, zs2, rfl, ⟨r1, b1⟩, ⟨r2, b2⟩⟩
end
end Go.Proofs.Ytlagadbkencpbaa
