/-
  JTop, YChain, YLeast, PA, JRef, JGrow, JSet, JOlA, KReal, RInts, ZA, YBound, YBnd, JRef2, PF, YSane, YThm, YLawA: joined.
-/
import Derived.Laws.Append
import Derived.StillTailTactics
import Derived.Deep.RegionLaw
import Derived.Test.YtimkmieohkefiaaGreatRows
import Derived.Test.YtimkmieohkefiaaGreatBA1
set_option linter.unusedSimpArgs false
set_option linter.unusedVariables false
namespace Go.Proofs.YtimkmieohkefiaaGreat
open Go.RowKit Go.Lib

/-- Indexes as numbers. -/
def toZ (os : List Nat) : List Int := os.map fun (x : Nat) => (x : Int)
theorem toZ_len (os : List Nat) : (toZ os).length = os.length := by unfold toZ; simp
theorem toZ_at (os : List Nat) {k : Nat} (hk : k < os.length) : (toZ os).getD k 0 = ((os.getD k 0 : Nat) : Int) := by
  unfold toZ; simp [List.getD_eq_getElem?_getD, hk]
theorem toZ_app (a b : List Nat) : toZ (a ++ b) = toZ a ++ toZ b := by unfold toZ; simp
theorem getD_memN {os : List Nat} {i : Nat} (h : i < os.length) : os.getD i 0 ∈ os := by
  rw [List.getD_eq_getElem?_getD, List.getElem?_eq_getElem h]; exact List.getElem_mem h
/-- The greatest of the first k. -/
structure TopV (v : List Int) (k : Nat) (M : Int) : Prop where
  le : ∀ x, x < k → v.getD x 0 ≤ M
  hit : ∃ x, x < k ∧ v.getD x 0 = M
set_option maxHeartbeats 800000 in
theorem max_any (v : List Int) (A : Option Addr) (c : Nat) (w : World) (h : Row .i64 w w.heap.size A v) (hm : v.length ≤ maxLen) (h1 : 0 < v.length) :
    Calls Tryz.prog 110 #[.slice A v.length c] w fun e w' => ∃ M, e = .returned (.int .i64 M) ∧ TopV v v.length M ∧ w' = w := by
  have hl : v.length ≤ 9223372036854775807 := hm
  have H := Lib.hid h
  obtain ⟨ad, rfl, _, c0⟩ := h 0 h1
  have HZ : Hid (TopV v 1 (v.getD 0 0)) := Lib.hid ⟨fun x hx => by
    obtain rfl : x = 0 := by omega
    exact Int.le_refl _, 0, by omega, rfl⟩
  obtain ⟨L, hL⟩ : ∃ n, n = v.length := ⟨_, rfl⟩
  have HL := Lib.hid hL
  rw [← hL] at hl h1 ⊢
  have hL1 : ¬ (L : Int) < 1 := by omega
  have hL0 : (0 : Int) < (L : Int) := by omega
  generalize v.getD 0 0 = z at *
  clear h hL hm
  have e0 : ad.add 0 = ad := by unfold Addr.add; rw [if_pos rfl]
  have c0' : w.cell? ad = some (.int .i64 z) := by rw [← e0]; exact c0
  clear e0
  go_enter Tryz.func110, Tryz.ntmps110
  go_wp2_with fail
  clear c0 c0'
  go_loopw [3, 4] (fun mv iv wr => ∃ (k : Nat) (M : Int), k < L + 1 ∧ iv = .int .i64 (k : Int) ∧ 1 ≤ k ∧ mv = .int .i64 M ∧ Hid (TopV v k M) ∧ Hid (wr = w)) (fun _ iv _ => L - (intOf iv).toNat)
  case atStart => exact ⟨1, z, by omega, rfl, by omega, rfl, HZ, Lib.hid rfl⟩
  case round =>
    clear HZ
    obtain ⟨k, M, hk, rfl, hk1, rfl, T, HW⟩ := hrel
    obtain rfl := HW.out
    by_cases hlt : k < L
    · obtain ⟨ad', e', _, ck⟩ := H.out k (by rw [← HL.out]; exact hlt)
      obtain rfl : ad = ad' := by injection e'
      obtain ⟨zk, hz⟩ : ∃ z, z = v.getD k 0 := ⟨_, rfl⟩
      rw [← hz] at ck
      obtain ⟨M2, hM2⟩ : ∃ t, t = max2 M zk := ⟨_, rfl⟩
      have hmx : ∀ w ts t, (Builtin.max_ ts t #[.int .i64 M, .int .i64 zk]).run Tryz.prog w = .ok (.int .i64 M2) w := fun w ts t => by rw [run_max2, hM2]
      have HT := Lib.hid (show TopV v (k + 1) M2 from by
        have hle := T.out.le
        have hhit := T.out.hit
        unfold max2 at hM2
        split at hM2
        · subst hM2
          refine ⟨fun x hx => ?_, k, by omega, hz.symm⟩
          rcases Nat.lt_or_ge x k with g | g
          · have := hle x g; omega
          · have : x = k := by omega
            subst this; omega
        · subst hM2
          obtain ⟨x0, h1, h2⟩ := hhit
          refine ⟨fun x hx => ?_, x0, by omega, h2⟩
          rcases Nat.lt_or_ge x k with g | g
          · exact hle x g
          · have : x = k := by omega
            subst this; omega)
      clear hz hM2 e' T
      go_wp2_with fail
      go_roundw
      case rel => exact ⟨k + 1, M2, by omega, by go_num, by omega, rfl, HT, Lib.hid trivial⟩
      case measure => simp [intOf]; omega
    · obtain rfl : k = L := by omega
      have HLL := Lib.hid HL.out
      go_wp2_with fail
      go_ret
      exact ⟨M, rfl, T.out, rfl⟩
set_option maxHeartbeats 800000 in
theorem indexOf_any (v : List Int) (A : Option Addr) (c : Nat) (M : Int) (w : World) (h : Row .i64 w w.heap.size A v) (hm : v.length ≤ maxLen) (ht : TopV v v.length M) :
    Calls Tryz.prog 111 #[.slice A v.length c, .int .i64 M] w fun e w' => ∃ y : Nat, e = .returned (.int .i64 (y : Int)) ∧ IsTop v y ∧ v.getD y 0 = M ∧ w' = w := by
  have hl : v.length ≤ 9223372036854775807 := hm
  have H := Lib.hid h
  have HT := Lib.hid ht
  obtain ⟨L, hL⟩ : ∃ n, n = v.length := ⟨_, rfl⟩
  have HL := Lib.hid hL
  rw [← hL] at hl ⊢
  clear h hL hm ht
  go_enter Tryz.func111, Tryz.ntmps111
  go_wp2_with fail
  go_loopw [8] (fun iv wr => ∃ k : Nat, k ≤ L ∧ iv = .int .i64 (k : Int) ∧ Hid (∀ x, x < k → v.getD x 0 ≠ M) ∧ Hid (wr = w)) (fun iv _ => L - (intOf iv).toNat)
  case atStart => exact ⟨0, by omega, rfl, Lib.hid (fun x hx => absurd hx (Nat.not_lt_zero _)), Lib.hid rfl⟩
  case round =>
    obtain ⟨k, hk, rfl, F, HW⟩ := hrel
    obtain rfl := HW.out
    by_cases hlt : k < L
    · obtain ⟨ad, rfl, _, ck⟩ := H.out k (by rw [← HL.out]; exact hlt)
      obtain ⟨zk, hz⟩ : ∃ z, z = v.getD k 0 := ⟨_, rfl⟩
      have HZ := Lib.hid hz
      rw [← hz] at ck
      clear hz
      by_cases e : M = zk
      · subst e
        have HTop := Lib.hid (show IsTop v k from ⟨by rw [← HL.out]; exact hlt, fun x hx => by rw [← HZ.out]; exact HT.out.le x hx, fun x hx => by
          have h1 := F.out x hx
          have h2 := HT.out.le x (by rw [← HL.out]; omega)
          rw [← HZ.out]; omega⟩)
        have hb : (M == M) = true := by simp
        clear F
        go_wp2_with fail
        go_ret
        exact ⟨k, rfl, HTop.out, HZ.out.symm, rfl⟩
      · have hb : (M == zk) = false := by simpa using e
        have HE := Lib.hid e
        clear e
        go_wp2_with fail
        go_roundw
        case rel => exact ⟨k + 1, by omega, by go_num, Lib.hid (fun x hx => by
          rcases Nat.lt_or_ge x k with g | g
          · exact F.out x g
          · have : x = k := by omega
            subst this; rw [← HZ.out]; exact fun q => HE.out q.symm), Lib.hid trivial⟩
        case measure => simp [intOf]; omega
    · obtain rfl : k = L := by omega
      exfalso
      obtain ⟨x, h1, h2⟩ := HT.out.hit
      exact F.out x (by rw [HL.out]; exact h1) h2
end Go.Proofs.YtimkmieohkefiaaGreat

namespace Go.Proofs.YtimkmieohkefiaaGreat
open Go.RowKit Go.Lib

def tlN (i : Nat) : Bool := false
/-- What a chain leaves: a list of the call's own. -/
def ChPostB (l : List It) (v bs : List Int) (y : Nat) (w : World) (e : Ending) (w' : World) : Prop :=
  ∃ u c, e = .returned u ∧ IsBackB l v bs y c ∧ Own .i64 3 w' w.heap.size u (toZ c) ∧ Below w.heap.size w w'
/-- Block b holds the solution. -/
structure SBox (w : World) (b : Nat) (d : SD) : Prop where
  c0 : w.cell? ⟨b, 0, none⟩ = some (.slice d.1.1 d.1.2.1 d.1.2.2)
  c1 : w.cell? ⟨b, 1, none⟩ = some (.slice d.2.1 d.2.2.1 d.2.2.2)
  lt : b < w.heap.size
theorem SBox.below {w w' : World} {b B : Nat} {d : SD} (h : SBox w b d) (k : Below B w w') (hb : b < B) : SBox w' b d :=
  ⟨(k.cell (p := ⟨b, 0, none⟩) hb).trans h.c0, (k.cell (p := ⟨b, 1, none⟩) hb).trans h.c1, Nat.lt_of_lt_of_le h.lt k.size⟩
theorem SBox.new {w : World} {d : SD} (b : Nat) (hb : b = w.heap.size) : SBox (w.alloc (.cells #[.slice d.1.1 d.1.2.1 d.1.2.2, .slice d.2.1 d.2.2.1 d.2.2.2] 155)) b d := by
  subst hb; exact ⟨by rw [cell_new]; rfl, by rw [cell_new]; rfl, by simp⟩
set_option maxRecDepth 100000 in
set_option maxHeartbeats 3200000 in
theorem ychain_any (l : List It) (A BA CA : Option Addr) (c bc cc L : Nat) (wt : Int) (bs v : List Int) (hL : L = l.length) (hval : validR l wt = 0) (hs : Sol l wt bs v) :
    ∀ (n y : Nat), y < L → blk l y < n → ∀ w : World, IRow w A l → Row .i64 w w.heap.size BA bs → Row .i64 w w.heap.size CA v →
    Calls Tryz.prog 112 #[jv A L c wt, sv ((BA, L, bc), (CA, L, cc)), .int .i64 (y : Int)] w (ChPostB l v bs y w) := by
  have hf := formOk_of hval
  have hL2 := (valid_ok hval).1
  intro n
  induction n with
  | zero => intro y hy hb w; have := (hf.blk y (by rw [← hL]; exact hy)).1; omega
  | succ n ih =>
    intro y hy hb w hi hbr hvr
    have HF := Lib.hid hf
    have HS := Lib.hid hs
    have HI := Lib.hid hi
    have HB := Lib.hid hbr
    have HV := Lib.hid hvr
    have HL := Lib.hid hL
    have HIH := Lib.hid ih
    have HBN := Lib.hid hb
    have HLB := Lib.hid (fun (k : Nat) (hk : k < L) (vk0 : Int) (h1 : 0 ≤ vk0 ∧ vk0 ≤ 1000000) (W : World) (h2 : IRow W A l) => lb_any l A c L wt hL hval k y vk0 h1 hk hy W h2)
    have hL96 : L ≤ 96 := by omega
    have hbl : bs.length = L := by rw [hs.blen, hL]
    have hvl : v.length = L := by rw [hs.vlen, hL]
    have HBL := Lib.hid hbl
    have HVL := Lib.hid hvl
    have s1 : (w.alloc (.cells #[.slice A L c, .int .i64 wt] 37)).heap.size = w.heap.size + 1 := by simp
    have J0 := JBox.new (w := w) (A := A) (n := L) (c := c) (wt := wt) w.heap.size rfl
    have B0 := (Below.refl w.heap.size w).alloc (Nat.le_refl _) (.cells #[.slice A L c, .int .i64 wt] 37)
    have X0 := SBox.new (w := w.alloc (.cells #[.slice A L c, .int .i64 wt] 37)) (d := ((BA, L, bc), (CA, L, cc))) _ rfl
    have b1 := (Below.refl _ (w.alloc (.cells #[.slice A L c, .int .i64 wt] 37))).alloc (Nat.le_refl _) (.cells #[.slice BA L bc, .slice CA L cc] 155)
    have HJ := Lib.hid (J0.below b1 J0.lt)
    have HBW := Lib.hid (B0.trans (b1.mono B0.size))
    rw [s1] at X0
    have HX := Lib.hid X0
    obtain ⟨b, hbq⟩ : ∃ b, b = w.heap.size := ⟨_, rfl⟩
    clear hf hL2 hs hi hbr hvr hL ih hb s1 J0 B0 X0 b1 hval hbl hvl
    go_enter Tryz.func112, Tryz.ntmps112
    go_upto_region 1 with fail
    rw [← hbq] at HJ HX ⊢
    generalize (w.alloc (.cells #[.slice A L c, .int .i64 wt] 37)).alloc (.cells #[.slice BA L bc, .slice CA L cc] 155) = w1 at *
    obtain ⟨x0, x1, xl⟩ := HX.out
    replace x0 : w1.cell? ⟨b + 1, 0, none⟩ = some (.slice BA L bc) := x0
    replace x1 : w1.cell? ⟨b + 1, 1, none⟩ = some (.slice CA L cc) := x1
    have HB1 := Lib.hid (HB.out.below HBW.out)
    obtain ⟨ab, rfl, _, cy⟩ := HB1.out y (by rw [HBL.out]; exact hy)
    have hyi : (y : Int) < (L : Int) := by omega
    have hz0 := ((HS.out.bound HF.out) y).2
    obtain ⟨z, hz⟩ : ∃ z, z = bs.getD y 0 := ⟨_, rfl⟩
    have HZ := Lib.hid hz
    rw [← hz] at cy hz0
    clear hz hbq
    by_cases hzp : 0 < z
    · go_wp2_with fail
      clear cy x0 x1 xl
      go_loopw [18] (fun iv wr => ∃ k : Nat, k ≤ L ∧ iv = .int .i64 (k : Int) ∧ Hid (∀ x, x < k → via l v x y ≠ z) ∧ Hid (Below w1.heap.size w1 wr)) (fun iv _ => L - (intOf iv).toNat)
      case atStart => exact ⟨0, by omega, rfl, Lib.hid (fun x hx => absurd hx (Nat.not_lt_zero _)), Lib.hid (Below.refl _ _)⟩
      case round =>
        obtain ⟨k, hk, rfl, F, BR⟩ := hrel
        by_cases hlt : k < L
        · have BWR := Lib.hid (HBW.out.trans (BR.out.mono HBW.out.size))
          obtain ⟨ac, rfl, _, ck⟩ := (HV.out.below BWR.out) k (by rw [HVL.out]; exact hlt)
          have hki : (k : Int) < (L : Int) := by omega
          have hvk := ((HS.out.bound HF.out) k).1
          obtain ⟨vk0, hvk0⟩ : ∃ m, m = v.getD k 0 := ⟨_, rfl⟩
          have HLB1 := Lib.hid (fun (W : World) (kb : Below wr.heap.size wr W) => HLB.out k hlt vk0 (by rw [hvk0]; omega) W (HI.out.below (BWR.out.trans (kb.mono BWR.out.size))))
          have HVV := Lib.hid (show via l v k y = vk (rel l k y) vk0 by rw [hvk0]; rfl)
          rw [← hvk0] at ck
          obtain ⟨lb, hlb⟩ : ∃ m, m = vk (rel l k y) vk0 := ⟨_, rfl⟩
          rw [← hlb] at HLB1 HVV
          clear hvk hvk0 hlb
          obtain ⟨j0, j1, jl⟩ := (HJ.out.below BR.out HJ.out.lt)
          obtain ⟨x0, x1, xl⟩ := (HX.out.below BR.out HX.out.lt)
          replace x0 : wr.cell? ⟨b + 1, 0, none⟩ = some (.slice (some ab) L bc) := x0
          replace x1 : wr.cell? ⟨b + 1, 1, none⟩ = some (.slice (some ac) L cc) := x1
          obtain ⟨ab', e', _, cy⟩ := (HB1.out.below BR.out) y (by rw [HBL.out]; exact hy)
          obtain rfl : ab = ab' := by injection e'
          rw [← HZ.out] at cy
          have lty := lt_of_cell cy
          have HPS := Lib.hid (fun (X : World) (hX : Below wr.heap.size wr X) => (show X.cell? ⟨b, 0, none⟩ = some (.slice A L c) ∧ X.cell? ⟨b, 1, none⟩ = some (.int .i64 wt) ∧ X.cell? ⟨b + 1, 0, none⟩ = some (.slice (some ab) L bc) ∧ X.cell? (ab.add y) = some (.int .i64 z) from
            ⟨(hX.cell (p := ⟨b, 0, none⟩) jl).trans j0, (hX.cell (p := ⟨b, 1, none⟩) jl).trans j1, (hX.cell (p := ⟨b + 1, 0, none⟩) xl).trans x0, (hX.cell lty).trans cy⟩))
          clear j0 j1 x0 cy lty e'
          go_upto_region 5 with fail
          clear x1 ck
          obtain ⟨q0, e0⟩ : ∃ x, x = wr.drew := ⟨_, rfl⟩
          have K0 := Lib.hid (show Below wr.heap.size wr q0 from by rw [e0]; exact (Below.refl _ _).drew)
          have F0 := HPS.out q0 K0.out
          have HE0 := Lib.hid e0
          clear e0
          refine AnyT.begin_at tlN (fun X => X.cell? ⟨b, 0, none⟩ = some (.slice A L c) ∧ X.cell? ⟨b, 1, none⟩ = some (.int .i64 wt) ∧ X.cell? ⟨b + 1, 0, none⟩ = some (.slice (some ab) L bc) ∧ X.cell? (ab.add y) = some (.int .i64 z)) (by kernel_rfl) HE0.out F0 ?_
          clear F0
          intro F0
-- TAKES R5
          refine AnyT.takeD (i := 0) (d := some 23) (v := jv A L c wt) rfl rfl (by kernel_rfl) (by kernel_rfl) (by kernel_rfl) (by kernel_rfl) (fun _ _ _ h => h) (Or.inl ⟨by rfl, fun wz hz => by obtain ⟨z0, z1, z2, z3⟩ := hz; go_simp⟩) F0 ?_
          simp only [Act.put, List.setIfInBounds_toArray, List.set_cons_zero, List.set_cons_succ]
          refine AnyT.takeD (i := 1) (d := some 24) (v := .int .i64 (k : Int)) rfl rfl (by kernel_rfl) (by kernel_rfl) (by kernel_rfl) (by kernel_rfl) (fun _ _ _ h => h) (Or.inl ⟨by rfl, fun wz _ => by go_simp⟩) F0 ?_
          simp only [Act.put, List.setIfInBounds_toArray, List.set_cons_zero, List.set_cons_succ]
          refine AnyT.takeD (i := 2) (d := some 25) (v := .int .i64 vk0) rfl rfl (by kernel_rfl) (by kernel_rfl) (by kernel_rfl) (by kernel_rfl) (fun _ _ _ h => h) (Or.inl ⟨by rfl, fun wz _ => by go_simp⟩) F0 ?_
          simp only [Act.put, List.setIfInBounds_toArray, List.set_cons_zero, List.set_cons_succ]
          refine AnyT.takeD (i := 3) (d := some 26) (v := .int .i64 (y : Int)) rfl rfl (by kernel_rfl) (by kernel_rfl) (by kernel_rfl) (by kernel_rfl) (fun _ _ _ h => h) (Or.inl ⟨by rfl, fun wz _ => by go_simp⟩) F0 ?_
          simp only [Act.put, List.setIfInBounds_toArray, List.set_cons_zero, List.set_cons_succ]
          refine AnyT.takeD (i := 5) (d := some 28) (v := .pointer (some ⟨b + 1, 0, none⟩)) rfl rfl (by kernel_rfl) (by kernel_rfl) (by kernel_rfl) (by kernel_rfl) (fun _ _ _ h => h) (Or.inl ⟨by rfl, fun wz _ => by go_simp⟩) F0 ?_
          simp only [Act.put, List.setIfInBounds_toArray, List.set_cons_zero, List.set_cons_succ]
          refine AnyT.takeD (i := 6) (d := some 29) (v := .slice (some ab) L bc) rfl rfl (by kernel_rfl) (by kernel_rfl) (by kernel_rfl) (by kernel_rfl) (fun _ _ _ h => h) (Or.inl ⟨by rfl, fun wz hz => by obtain ⟨z0, z1, z2, z3⟩ := hz; go_simp⟩) F0 ?_
          simp only [Act.put, List.setIfInBounds_toArray, List.set_cons_zero, List.set_cons_succ]
          refine AnyT.takeD (i := 7) (d := some 30) (v := .int .i64 (y : Int)) rfl rfl (by kernel_rfl) (by kernel_rfl) (by kernel_rfl) (by kernel_rfl) (fun _ _ _ h => h) (Or.inl ⟨by rfl, fun wz _ => by go_simp⟩) F0 ?_
          simp only [Act.put, List.setIfInBounds_toArray, List.set_cons_zero, List.set_cons_succ]
          refine AnyT.takeD (i := 8) (d := some 31) (v := .pointer (some (ab.add y))) rfl rfl (by kernel_rfl) (by kernel_rfl) (by kernel_rfl) (by kernel_rfl) (fun _ _ _ h => h) (Or.inl ⟨by rfl, fun wz _ => by go_simp⟩) F0 ?_
          simp only [Act.put, List.setIfInBounds_toArray, List.set_cons_zero, List.set_cons_succ]
          refine AnyT.takeD (i := 9) (d := some 32) (v := .int .i64 z) rfl rfl (by kernel_rfl) (by kernel_rfl) (by kernel_rfl) (by kernel_rfl) (fun _ _ _ h => h) (Or.inl ⟨by rfl, fun wz hz => by obtain ⟨z0, z1, z2, z3⟩ := hz; go_simp⟩) F0 ?_
          simp only [Act.put, List.setIfInBounds_toArray, List.set_cons_zero, List.set_cons_succ]
          -- TAKEN R5
          refine AnyT.branch (rs := [4]) (by kernel_rfl) (by simp) ?_
          refine all_cons (?_) all_nil
          refine AnyT.enter (i := 4) (d := some 27) (f := 133) (args := #[jv A L c wt, .int .i64 (k : Int), .int .i64 vk0, .int .i64 (y : Int)]) rfl rfl rfl (by go_simp) (HLB1.out q0 K0.out) ?_
          rintro e q1 ⟨rfl, hB1⟩
          have K1 := Lib.hid (K0.out.trans (hB1.mono K0.out.size))
          have F1 := HPS.out q1 K1.out
          refine ⟨_, rfl, fun _ => F1, ?_⟩
          clear hB1 F0
          simp only [Act.put, List.setIfInBounds_toArray, List.set_cons_zero, List.set_cons_succ]
          refine AnyT.takeD (i := 10) (d := some 33) (v := .bool (lb == z)) rfl rfl (by kernel_rfl) (by kernel_rfl) (by kernel_rfl) (by kernel_rfl) (fun _ _ _ h => h) (Or.inl ⟨by rfl, fun wz _ => by go_simp⟩) F1 ?_
          simp only [Act.put, List.setIfInBounds_toArray, List.set_cons_zero, List.set_cons_succ]
          refine AnyT.done_ (by kernel_rfl) ?_ _
          have BR1 := Lib.hid (BR.out.trans (K1.out.mono BR.out.size))
          clear F1 HPS HE0 K0 K1 HLB1
          by_cases e : lb = z
          · subst e
            have hb : (lb == lb) = true := by simp
            have hbx : blk l k < n := by
              have gr : rel l k y ≠ 0 := fun gr => by have := HVV.out; rw [via_zero gr] at this; omega
              have h1 := (rel_pos gr).2
              have h2 := HBN.out
              omega
            have HST := Lib.hid (fun ch hc => IsBackB.step (l := l) (v := v) (bs := bs) y k ch (by rw [← HZ.out]; exact hzp) (by rw [← HL.out]; exact hlt) (by rw [← HZ.out]; exact HVV.out) (fun x hx => by rw [← HZ.out]; exact F.out x hx) hc)
            have BW := Lib.hid (HBW.out.trans (BR1.out.mono HBW.out.size))
            have HC := Lib.hid (HIH.out k hlt hbx q1 (HI.out.below BW.out) (HB.out.below BW.out) (HV.out.below BW.out))
            obtain ⟨j0, j1, jl⟩ := (HJ.out.below BR1.out HJ.out.lt)
            obtain ⟨x0, x1, xl⟩ := (HX.out.below BR1.out HX.out.lt)
            replace x0 : q1.cell? ⟨b + 1, 0, none⟩ = some (.slice (some ab) L bc) := x0
            replace x1 : q1.cell? ⟨b + 1, 1, none⟩ = some (.slice (some ac) L cc) := x1
            rw [hb]
            clear BR BWR
            go_wp2_with fail
            refine HC.out.mono ?_
            rintro e w3 ⟨u, ch, rfl, hch, O, B3⟩
            have HCH := Lib.hid (HST.out ch hch)
            have hcl := hch.len HF.out.blk (by rw [← HL.out]; exact hlt)
            have h31 := (HF.out.blk k (by rw [← HL.out]; exact hlt)).2
            have HLN := Lib.hid (show (toZ ch).length + 1 ≤ 1000000000 by rw [toZ_len]; omega)
            have O3 := Lib.hid (O.base BW.out.size)
            have B4 := Lib.hid (BW.out.trans (B3.mono BW.out.size))
            clear hcl h31 O B3 HC HST hch BW j0 j1 jl x0 x1 xl
            go_wp2_with (first | (at_builtin; refine wpList_appI _ rfl (.tmp 37) (.tmp 39) rfl w.heap.size _ (toZ ch) rfl (O3.out.alloc _) (y : Int) w3 rfl _ rfl 1 rfl HLN.out (le_allocW (w := w3) B4.out.size) ?_; intro v5 w5 A5))
            go_ret
            exact ⟨v5, ch ++ [y], rfl, HCH.out, by rw [toZ_app]; exact A5.1, A5.below B4.out B4.out.size O3.out⟩
          · have hb : (lb == z) = false := by simpa using e
            have HE := Lib.hid e
            rw [hb]
            clear e
            go_wp2_with fail
            go_roundw
            case rel => exact ⟨k + 1, by omega, by go_num, Lib.hid (fun x hx => by
              rcases Nat.lt_or_ge x k with g | g
              · exact F.out x g
              · have : x = k := by omega
                subst this; rw [HVV.out]; exact HE.out), BR1⟩
            case measure => simp [intOf]; omega
        · exfalso
          have hkL : k = L := by omega
          rcases (HS.out.base y (by rw [← HL.out]; exact hy)).hit with e | ⟨x, hx, e⟩
          · have := HZ.out; omega
          · exact F.out x (by rw [hkL, HL.out]; exact hx) (by rw [HZ.out]; exact e)
    · have hz1 : ¬ (0 : Int) < z := hzp
      have OO := Lib.hid (Own.laid (k := .i64) (T := 3) w1 w.heap.size HBW.out.size (toZ [y]) 1 rfl (by omega))
      have B4 := Lib.hid (HBW.out.alloc HBW.out.size (.cells #[.int .i64 (y : Int)] 3))
      go_wp2_with fail
      go_ret
      exact ⟨_, [y], rfl, .one y (by rw [← HZ.out]; omega), OO.out, B4.out⟩
end Go.Proofs.YtimkmieohkefiaaGreat

namespace Go.Proofs.YtimkmieohkefiaaGreat
open Go.RowKit Go.Lib

/-- The number of steps of the codes v. -/
def StepsOf (v : List Int) (st : Int) : Prop := (v = [] ∧ st = 0) ∨ ∃ M, TopV v v.length M ∧ st = (ln M.toNat : Int)
theorem TopV.ex (v : List Int) : ∀ k, 0 < k → ∃ M, TopV v k M := by
  intro k
  induction k with
  | zero => intro h; omega
  | succ k ih =>
    intro _
    rcases Nat.eq_zero_or_pos k with h0 | h0
    · subst h0
      exact ⟨v.getD 0 0, fun x hx => by obtain rfl : x = 0 := by omega
                                        exact Int.le_refl _, 0, by omega, rfl⟩
    · obtain ⟨M, h1, y, hy, h2⟩ := ih h0
      by_cases g : M ≤ v.getD k 0
      · refine ⟨v.getD k 0, fun x hx => ?_, k, by omega, rfl⟩
        rcases Nat.lt_or_ge x k with h3 | h3
        · have := h1 x h3; omega
        · obtain rfl : x = k := by omega
          exact Int.le_refl _
      · refine ⟨M, fun x hx => ?_, y, by omega, h2⟩
        rcases Nat.lt_or_ge x k with h3 | h3
        · exact h1 x h3
        · obtain rfl : x = k := by omega
          omega
theorem TopV.uniq {v : List Int} {k : Nat} {M N : Int} (h : TopV v k M) (g : TopV v k N) : M = N := by
  obtain ⟨x, hx, ex⟩ := h.hit
  obtain ⟨y, hy, ey⟩ := g.hit
  have := h.le y hy
  have := g.le x hx
  omega
theorem TopV.top {v : List Int} {M : Int} (h : TopV v v.length M) : ∃ y, IsTop v y := by
  obtain ⟨x, hx, e⟩ := h.hit
  obtain ⟨y, hy, hm⟩ : ∃ y, v.getD y 0 = M ∧ ∀ z, z < y → v.getD z 0 ≠ M := by
    have : ∀ k x, x < k → v.getD x 0 = M → ∃ y, v.getD y 0 = M ∧ ∀ z, z < y → v.getD z 0 ≠ M := by
      intro k
      induction k with
      | zero => intro x hx; omega
      | succ k ih =>
        intro x hx e
        by_cases c : ∃ z, z < x ∧ v.getD z 0 = M
        · obtain ⟨z, h1, h2⟩ := c
          exact ih z (by omega) h2
        · exact ⟨x, e, fun z h1 h2 => c ⟨z, h1, h2⟩⟩
    exact this (x + 1) x (by omega) e
  have hyx : y ≤ x := by
    rcases Nat.lt_or_ge x y with g | g
    · exact absurd e (hm x g)
    · exact g
  refine ⟨y, by omega, fun z hz => by rw [hy]; exact h.le z hz, fun z hz => ?_⟩
  have h1 := h.le z (by omega)
  have h2 := hm z hz
  rw [hy]; omega
theorem StepsOf.uniq {v : List Int} {a b : Int} (h : StepsOf v a) (k : StepsOf v b) : a = b := by
  rcases h with ⟨e, rfl⟩ | ⟨M, hM, rfl⟩
  · rcases k with ⟨_, rfl⟩ | ⟨N, hN, rfl⟩
    · rfl
    · obtain ⟨x, hx, _⟩ := hN.hit
      rw [e] at hx; cases hx
  · rcases k with ⟨e, rfl⟩ | ⟨N, hN, rfl⟩
    · obtain ⟨x, hx, _⟩ := hM.hit
      rw [e] at hx; cases hx
    · rw [hM.uniq hN]
/-- What Least answers: steps, codes, error. -/
def LeastR (l : List It) (wt st : Int) (v : List Int) (er : Int) : Prop :=
  (validR l wt ≠ 0 ∧ er = validR l wt ∧ v = [] ∧ st = 0) ∨ (validR l wt = 0 ∧ er = 15 ∧ v = [] ∧ st = 0 ∧ ∀ bs' v', ¬ Sol l wt bs' v') ∨ (validR l wt = 0 ∧ er = 0 ∧ (∃ bs, Sol l wt bs v) ∧ StepsOf v st)
theorem LeastR.uniq {l : List It} {wt st st' er er' : Int} {v v' : List Int} (h : LeastR l wt st v er) (k : LeastR l wt st' v' er') : st = st' ∧ v = v' ∧ er = er' := by
  rcases h with ⟨h0, rfl, rfl, rfl⟩ | ⟨h0, rfl, rfl, rfl, h1⟩ | ⟨h0, rfl, ⟨bs, h1⟩, h2⟩
  · rcases k with ⟨k0, rfl, rfl, rfl⟩ | ⟨k0, rfl, rfl, rfl, k1⟩ | ⟨k0, rfl, ⟨bs', k1⟩, k2⟩
    · exact ⟨rfl, rfl, rfl⟩
    · exact absurd k0 h0
    · exact absurd k0 h0
  · rcases k with ⟨k0, rfl, rfl, rfl⟩ | ⟨k0, rfl, rfl, rfl, k1⟩ | ⟨k0, rfl, ⟨bs', k1⟩, k2⟩
    · exact absurd h0 k0
    · exact ⟨rfl, rfl, rfl⟩
    · exact absurd k1 (h1 _ _)
  · rcases k with ⟨k0, rfl, rfl, rfl⟩ | ⟨k0, rfl, rfl, rfl, k1⟩ | ⟨k0, rfl, ⟨bs', k1⟩, k2⟩
    · exact absurd h0 k0
    · exact absurd h1 (k1 _ _)
    · obtain ⟨rfl, rfl⟩ := h1.uniq (valid_ok h0).2.2 k1
      exact ⟨h2.uniq k2, rfl, rfl⟩
/-- A plan's value. -/
abbrev pv (st : Int) (A : Option Addr) (n c : Nat) : Value := .agg #[.int .i64 st, .slice A n c]
def LeastPost (l : List It) (wt : Int) (w : World) (e : Ending) (w' : World) : Prop :=
  ∃ st A n c er v, e = .returned (.tuple #[pv st A n c, .int .i64 er]) ∧ Own .i64 3 w' w.heap.size (.slice A n c) v ∧ Below w.heap.size w w' ∧ LeastR l wt st v er
theorem results_plan {fn : Func} (hf : fn.results = #[.cell 2 39, .tmp 3]) (tmps : Array Value) (w : World) (b : Nat) (st er : Int) (A : Option Addr) (n c : Nat) (h2 : tmps.getD 2 undef = .pointer (some ⟨b, 0, none⟩)) (h3 : tmps.getD 3 undef = .int .i64 er) (c0 : w.cell? ⟨b, 0, none⟩ = some (.int .i64 st)) (c1 : w.cell? ⟨b, 1, none⟩ = some (.slice A n c)) :
    (results fn tmps).run Tryz.prog w = .ok (.tuple #[pv st A n c, .int .i64 er]) w := by
  have h2' : tmps[2]?.getD undef = .pointer (some ⟨b, 0, none⟩) := by simpa using h2
  have h3' : tmps[3]?.getD undef = .int .i64 er := by simpa using h3
  simp [results, hf, go_sem, h2', h3', c0, c1, asAddr]
/-- The box of a plan. -/
structure PBox (w : World) (b : Nat) (st : Int) (A : Option Addr) (n c : Nat) : Prop where
  c0 : w.cell? ⟨b, 0, none⟩ = some (.int .i64 st)
  c1 : w.cell? ⟨b, 1, none⟩ = some (.slice A n c)
  f : ∀ j, w.frozen? ⟨b, j, none⟩ = false
  lt : b < w.heap.size
theorem PBox.below {w w' : World} {b n c B : Nat} {st : Int} {A : Option Addr} (h : PBox w b st A n c) (k : Below B w w') (hb : b < B) : PBox w' b st A n c :=
  ⟨(k.cell (p := ⟨b, 0, none⟩) hb).trans h.c0, (k.cell (p := ⟨b, 1, none⟩) hb).trans h.c1, fun j => (k.frozen (p := ⟨b, j, none⟩) hb).trans (h.f j), Nat.lt_of_lt_of_le h.lt k.size⟩
theorem PBox.new {w : World} {st : Int} {A : Option Addr} {n c : Nat} (b : Nat) (hb : b = w.heap.size) : PBox (w.alloc (.cells #[.int .i64 st, .slice A n c] 39)) b st A n c := by
  subst hb; exact ⟨by rw [cell_new]; rfl, by rw [cell_new]; rfl, fun j => frozen_new _ _ _ _ _ rfl, by simp⟩
theorem PBox.put {w : World} {b n c n' c' : Nat} {st st' : Int} {A A' : Option Addr} (h : PBox w b st A n c) : PBox ((w.setCell ⟨b, 0, none⟩ (.int .i64 st')).setCell ⟨b, 1, none⟩ (.slice A' n' c')) b st' A' n' c' := by
  have g : (w.setCell ⟨b, 0, none⟩ (.int .i64 st')).cell? ⟨b, 1, none⟩ = some (.slice A n c) := by rw [World.cell?_setCell_other _ _ _ _ (by simp)]; exact h.c1
  refine ⟨?_, World.cell?_setCell_same _ _ _ g, fun j => by rw [World.frozen?_setCell, World.frozen?_setCell]; exact h.f j, by rw [World.size_setCell, World.size_setCell]; exact h.lt⟩
  rw [World.cell?_setCell_other _ _ _ _ (by simp)]; exact World.cell?_setCell_same _ _ _ h.c0
theorem Own.setN {k : IntKind} {e : TypeId} {W : World} {base : Nat} {v : Value} {zs : List Int} (h : Own k e W base v zs) {p : Addr} (hp : ∀ g, v.ownBlock = some g → g ≠ p.block) (u : Value) : Own k e (W.setCell p u) base v zs := by
  refine h.kept (row := some p.block) ⟨rfl, rfl, rfl, by rw [World.size_setCell]; exact Nat.le_refl _, fun k hk hn => Below.heap_setCell _ _ _ _ (fun e => hn (by first | exact congrArg some e | exact congrArg some e.symm))⟩ (Or.inr ?_)
  intro e
  exact hp _ e rfl
set_option maxRecDepth 100000 in
set_option maxHeartbeats 3200000 in
theorem least_any (l : List It) (A : Option Addr) (c L : Nat) (wt : Int) (hL : L = l.length) (w : World) (h : IRow w A l) :
    Calls Tryz.prog 63 #[jv A L c wt] w (LeastPost l wt w) := by
  have H := Lib.hid h
  have HL := Lib.hid hL
  have HSV := Lib.hid (fun (W : World) (k : IRow W A l) => solve_any l A c L wt hL W k)
  have s1 : (w.alloc (.cells #[.slice A L c, .int .i64 wt] 37)).heap.size = w.heap.size + 1 := by simp
  have J0 := JBox.new (w := w) (A := A) (n := L) (c := c) (wt := wt) w.heap.size rfl
  have B0 := (Below.refl w.heap.size w).alloc (Nat.le_refl _) (.cells #[.slice A L c, .int .i64 wt] 37)
  have X0 := PBox.new (w := w.alloc (.cells #[.slice A L c, .int .i64 wt] 37)) (st := 0) (A := none) (n := 0) (c := 0) _ rfl
  have b1 := (Below.refl _ (w.alloc (.cells #[.slice A L c, .int .i64 wt] 37))).alloc (Nat.le_refl _) (.cells #[.int .i64 0, .slice none 0 0] 39)
  have HJ := Lib.hid (J0.below b1 J0.lt)
  have HBW := Lib.hid (B0.trans (b1.mono B0.size))
  rw [s1] at X0
  have HX := Lib.hid X0
  obtain ⟨b, hbq⟩ : ∃ b, b = w.heap.size := ⟨_, rfl⟩
  have HBQ := Lib.hid hbq
  clear h hL s1 J0 B0 X0 b1
  go_enter Tryz.func63, Tryz.ntmps63
  go_upto_region 1 with fail
  rw [← hbq] at HJ HX ⊢
  generalize (w.alloc (.cells #[.slice A L c, .int .i64 wt] 37)).alloc (.cells #[.int .i64 0, .slice none 0 0] 39) = w1 at *
  clear hbq
  obtain ⟨j0, j1, jl⟩ := HJ.out
  go_wp2_with fail
  refine (HSV.out w1 (H.out.below HBW.out)).mono ?_
  rintro e w2 ⟨d, er, bs, v, rfl, OB, OV, B2, hr⟩
  have HX2 := Lib.hid (HX.out.below B2 HX.out.lt)
  have HB2 := Lib.hid (HBW.out.trans (B2.mono HBW.out.size))
  have HOV := Lib.hid OV
  have HR := Lib.hid hr
  have hbl : b + 1 < w1.heap.size := HX.out.lt
  have hbl2 : b + 1 < w2.heap.size := HX2.out.lt
  clear j0 j1 jl HX HJ OB B2 hr
  obtain ⟨⟨dA, dn, dc⟩, ⟨vA, vn, vc⟩⟩ := d
  obtain ⟨vA', vc', ev, VR, -, hvm, -⟩ := OV.slice
  have hvn : vn = v.length := by injection ev
  have hVA : vA = vA' := by injection ev
  subst hVA
  have HVM := Lib.hid hvm
  have HVR := Lib.hid VR
  have HVN := Lib.hid hvn
  clear OV ev VR vc' hvm hvn
  have hfin : ∀ (st er' : Int) (A' : Option Addr) (n' c' : Nat) (v' : List Int) (W : World), Below w2.heap.size w2 W → Own .i64 3 W w.heap.size (.slice A' n' c') v' → (∀ g, (Value.slice A' n' c').ownBlock = some g → g ≠ b + 1) → LeastR l wt st v' er' →
      LeastPost l wt w (.returned (.tuple #[pv st A' n' c', .int .i64 er'])) ((W.setCell ⟨b + 1, 0, none⟩ (.int .i64 st)).setCell ⟨b + 1, 1, none⟩ (.slice A' n' c')) := fun st er' A' n' c' v' W k o hg r => by
    refine ⟨st, A', n', c', er', v', rfl, (o.setN (p := ⟨b + 1, 0, none⟩) hg _).setN (p := ⟨b + 1, 1, none⟩) hg _, ?_, r⟩
    have := HB2.out.trans (k.mono HB2.out.size)
    exact (this.setCell (p := ⟨b + 1, 0, none⟩) (by have := HBQ.out; show _ ≤ b + 1; omega) _).setCell (p := ⟨b + 1, 1, none⟩) (by have := HBQ.out; show _ ≤ b + 1; omega) _
  have HFIN := Lib.hid hfin
  have BX := Lib.hid ((Below.refl w2.heap.size w2).alloc (Nat.le_refl _) (.cells #[.slice dA dn dc, .slice vA vn vc] 155))
  have SX := Lib.hid (SBox.new (w := w2) (d := ((dA, dn, dc), (vA, vn, vc))) w2.heap.size rfl)
  have PX := Lib.hid (HX2.out.below BX.out HX2.out.lt)
  clear hfin
  go_upto_region 2 with fail
  obtain ⟨g5, hg5⟩ : ∃ g, g = w2.heap.size := ⟨_, rfl⟩
  have HG5 := Lib.hid hg5
  rw [← hg5] at SX hbl2 ⊢
  generalize w2.alloc (.cells #[.slice dA dn dc, .slice vA vn vc] 155) = w3 at *
  clear hg5
  obtain ⟨p0, p1, pf, pl⟩ := PX.out
  have pf0 := pf 0
  have pf1 := pf 1
  have x0 : w3.cell? ⟨g5, 0, none⟩ = some (.slice dA dn dc) := SX.out.c0
  have x1 : w3.cell? ⟨g5, 1, none⟩ = some (.slice vA vn vc) := SX.out.c1
  have PP0 := Lib.hid (fun (st : Int) (A' : Option Addr) (n' c' : Nat) => PX.out.put (st' := st) (A' := A') (n' := n') (c' := c'))
  clear pf
  by_cases he : er = 0
  · subst he
    have hsol : validR l wt = 0 ∧ Sol l wt bs v := by
      rcases HR.out with ⟨h1, h2, _⟩ | ⟨_, h2, _⟩ | ⟨h1, _, h3⟩
      · exact absurd h2.symm h1
      · omega
      · exact ⟨h1, h3⟩
    have HSOL := Lib.hid hsol
    clear hsol
    by_cases hz : vn = 0
    · subst hz
      have hv0 : v = [] := List.length_eq_zero_iff.1 HVN.out.symm
      have RR := Lib.hid (show LeastR l wt 0 [] 0 from Or.inr (Or.inr ⟨HSOL.out.1, rfl, ⟨bs, by rw [← hv0]; exact HSOL.out.2⟩, Or.inl ⟨rfl, rfl⟩⟩))
      clear hv0
      go_wp2_with fail
      refine bodyPost_ret (results_plan rfl _ _ (b + 1) 0 0 none 0 0 rfl rfl (PP0.out _ _ _ _).c0 (PP0.out _ _ _ _).c1) rfl ?_
      exact HFIN.out 0 0 none 0 0 [] _ BX.out Own.nil (fun g h => (by cases h)) RR.out
    · have hvp : 0 < v.length := by have := HVN.out; omega
      have hn0 : ((vn : Int) == 0) = false := by simp; omega
      have hn1 : ¬ ((vn : Int) = 0) := by omega
      have HMX := Lib.hid (fun W k => max_any v vA vc W k HVM.out hvp)
      rw [← HVN.out] at HMX
      have HV3 := Lib.hid (HVR.out.below BX.out)
      clear hz hvp
      go_wp2_with fail
      refine (HMX.out _ HV3.out).mono ?_
      rintro e w4 ⟨M, rfl, hT, hw4⟩
      subst hw4
      have hb := HSOL.out.2.bound (formOk_of HSOL.out.1)
      obtain ⟨x, hx, hxM⟩ := hT.hit
      have hMb := (hb x).1
      rw [hxM] at hMb
      have HT := Lib.hid hT
      clear hT hb hx hxM
      obtain ⟨K, rfl⟩ := Int.eq_ofNat_of_zero_le hMb.1
      have hK : K < 4096 := by omega
      have HST := Lib.hid (stepsZ_nat hK)
      go_wp2_with fail
      refine (steps_any _ _).mono ?_
      rintro e w5 ⟨rfl, hw5⟩
      subst hw5
      rw [HST.out]
      have RR := Lib.hid (show LeastR l wt (ln K : Int) v 0 from Or.inr (Or.inr ⟨HSOL.out.1, rfl, ⟨bs, HSOL.out.2⟩, Or.inr ⟨(K : Int), by rw [← HVN.out] at *; exact HT.out, rfl⟩⟩))
      go_wp2_with fail
      refine bodyPost_ret (results_plan rfl _ _ (b + 1) (ln K : Int) 0 vA vn vc rfl rfl (PP0.out _ _ _ _).c0 (PP0.out _ _ _ _).c1) rfl ?_
      refine HFIN.out (ln K : Int) 0 vA vn vc v _ BX.out ((HOV.out.base HBW.out.size).below BX.out) (fun g h => ?_) RR.out
      have := (own_block HOV.out h).1
      omega
  · have hne : (er != 0) = true := bne_iff_ne.2 he
    have RR := Lib.hid (show LeastR l wt 0 [] er from by
      rcases HR.out with ⟨h1, h2, _, _⟩ | ⟨h1, h2, _, _, h5⟩ | ⟨_, h2, _⟩
      · exact Or.inl ⟨h1, h2, rfl, rfl⟩
      · exact Or.inr (Or.inl ⟨h1, h2, rfl, rfl, h5⟩)
      · exact absurd h2 he)
    clear he
    go_wp2_with fail
    refine bodyPost_ret (results_plan rfl _ _ (b + 1) 0 er none 0 0 rfl rfl (PP0.out _ _ _ _).c0 (PP0.out _ _ _ _).c1) rfl ?_
    exact HFIN.out 0 er none 0 0 [] _ BX.out Own.nil (fun g h => (by cases h)) RR.out
/-- What Witness answers. -/
def WitR (l : List It) (wt : Int) (zs : List Int) (er : Int) : Prop :=
  (validR l wt ≠ 0 ∧ er = validR l wt ∧ zs = []) ∨ (validR l wt = 0 ∧ er = 15 ∧ zs = [] ∧ ∀ bs' v', ¬ Sol l wt bs' v') ∨ (validR l wt = 0 ∧ er = 0 ∧ ∃ bs v, Sol l wt bs v ∧ ((l.length = 0 ∧ zs = []) ∨ ∃ y c, IsTop v y ∧ IsBackB l v bs y c ∧ zs = toZ c))
theorem WitR.uniq {l : List It} {wt er er' : Int} {v v' : List Int} (h : WitR l wt v er) (k : WitR l wt v' er') : v = v' ∧ er = er' := by
  rcases h with ⟨h0, rfl, rfl⟩ | ⟨h0, rfl, rfl, h1⟩ | ⟨h0, rfl, bs, vs, h1, h2⟩
  · rcases k with ⟨k0, rfl, rfl⟩ | ⟨k0, rfl, rfl, k1⟩ | ⟨k0, rfl, bs', vs', k1, k2⟩
    · exact ⟨rfl, rfl⟩
    · exact absurd k0 h0
    · exact absurd k0 h0
  · rcases k with ⟨k0, rfl, rfl⟩ | ⟨k0, rfl, rfl, k1⟩ | ⟨k0, rfl, bs', vs', k1, k2⟩
    · exact absurd h0 k0
    · exact ⟨rfl, rfl⟩
    · exact absurd k1 (h1 _ _)
  · rcases k with ⟨k0, rfl, rfl⟩ | ⟨k0, rfl, rfl, k1⟩ | ⟨k0, rfl, bs', vs', k1, k2⟩
    · exact absurd h0 k0
    · exact absurd h1 (k1 _ _)
    · obtain ⟨rfl, rfl⟩ := h1.uniq (valid_ok h0).2.2 k1
      refine ⟨?_, rfl⟩
      rcases h2 with ⟨h2, rfl⟩ | ⟨y, c, h2, h3, rfl⟩
      · rcases k2 with ⟨_, rfl⟩ | ⟨y', c', k2, _, _⟩
        · rfl
        · have := k2.lt; rw [h1.vlen, h2] at this; cases this
      · rcases k2 with ⟨k2, rfl⟩ | ⟨y', c', k2, k3, rfl⟩
        · have := h2.lt; rw [h1.vlen, k2] at this; cases this
        · obtain rfl := h2.uniq k2
          rw [h3.uniq k3]
def WitPost (l : List It) (wt : Int) (w : World) (e : Ending) (w' : World) : Prop :=
  ∃ u er zs, e = .returned (.tuple #[u, .int .i64 er]) ∧ Own .i64 3 w' w.heap.size u zs ∧ Below w.heap.size w w' ∧ WitR l wt zs er
set_option maxRecDepth 100000 in
set_option maxHeartbeats 3200000 in
theorem witness_any (l : List It) (A : Option Addr) (c L : Nat) (wt : Int) (hL : L = l.length) (w : World) (h : IRow w A l) :
    Calls Tryz.prog 64 #[jv A L c wt] w (WitPost l wt w) := by
  have H := Lib.hid h
  have HL := Lib.hid hL
  have HSV := Lib.hid (fun (W : World) (k : IRow W A l) => solve_any l A c L wt hL W k)
  have HBW := Lib.hid ((Below.refl w.heap.size w).alloc (Nat.le_refl _) (.cells #[.slice A L c, .int .i64 wt] 37))
  have HJ := Lib.hid (JBox.new (w := w) (A := A) (n := L) (c := c) (wt := wt) w.heap.size rfl)
  obtain ⟨b, hbq⟩ : ∃ b, b = w.heap.size := ⟨_, rfl⟩
  clear h hL
  go_enter Tryz.func64, Tryz.ntmps64
  go_upto_region 1 with fail
  rw [← hbq] at HJ ⊢
  generalize w.alloc (.cells #[.slice A L c, .int .i64 wt] 37) = w1 at *
  clear hbq
  obtain ⟨j0, j1, jl⟩ := HJ.out
  go_wp2_with fail
  refine (HSV.out w1 (H.out.below HBW.out)).mono ?_
  rintro e w2 ⟨d, er, bs, v, rfl, OB, OV, B2, hr⟩
  have HJ2 := Lib.hid (HJ.out.below B2 jl)
  have HB2 := Lib.hid (HBW.out.trans (B2.mono HBW.out.size))
  have HR := Lib.hid hr
  clear j0 j1 jl HJ B2 hr
  obtain ⟨⟨dA, dn, dc⟩, ⟨vA, vn, vc⟩⟩ := d
  obtain ⟨vA', vc', ev, VR, -, hvm, -⟩ := OV.slice
  have hvn : vn = v.length := by injection ev
  have hVA : vA = vA' := by injection ev
  subst hVA
  obtain ⟨dA', dc', ed, DR, -, -, -⟩ := OB.slice
  have hdn : dn = bs.length := by injection ed
  have hDA : dA = dA' := by injection ed
  subst hDA
  have HVM := Lib.hid hvm
  have BX := Lib.hid ((Below.refl w2.heap.size w2).alloc (Nat.le_refl _) (.cells #[.slice dA dn dc, .slice vA vn vc] 155))
  have SX := Lib.hid (SBox.new (w := w2) (d := ((dA, dn, dc), (vA, vn, vc))) w2.heap.size rfl)
  have HV3 := Lib.hid (VR.below BX.out)
  have HD3 := Lib.hid (DR.below BX.out)
  have HJ3 := Lib.hid (HJ2.out.below BX.out HJ2.out.lt)
  have HB3 := Lib.hid (HB2.out.trans (BX.out.mono HB2.out.size))
  have HDN := Lib.hid hdn
  have HVN := Lib.hid hvn
  clear OV ev VR vc' OB ed DR dc' hdn hvm hvn
  go_upto_region 2 with fail
  obtain ⟨g5, hg5⟩ : ∃ g, g = w2.heap.size := ⟨_, rfl⟩
  rw [← hg5] at SX ⊢
  generalize w2.alloc (.cells #[.slice dA dn dc, .slice vA vn vc] 155) = w3 at *
  clear hg5
  have x0 : w3.cell? ⟨g5, 0, none⟩ = some (.slice dA dn dc) := SX.out.c0
  have x1 : w3.cell? ⟨g5, 1, none⟩ = some (.slice vA vn vc) := SX.out.c1
  by_cases he : er = 0
  · subst he
    have hsol : validR l wt = 0 ∧ Sol l wt bs v := by
      rcases HR.out with ⟨h1, h2, _⟩ | ⟨_, h2, _⟩ | ⟨h1, _, h3⟩
      · exact absurd h2.symm h1
      · omega
      · exact ⟨h1, h3⟩
    have HSOL := Lib.hid hsol
    clear hsol
    by_cases hz : vn = 0
    · subst hz
      have hv0 : v = [] := List.length_eq_zero_iff.1 HVN.out.symm
      have RR := Lib.hid (show WitR l wt [] 0 from Or.inr (Or.inr ⟨HSOL.out.1, rfl, bs, v, HSOL.out.2, Or.inl ⟨by rw [← HSOL.out.2.vlen, hv0]; rfl, rfl⟩⟩))
      clear hv0
      go_wp2_with fail
      go_ret2
      exact ⟨_, 0, [], rfl, Own.nil, HB3.out, RR.out⟩
    · have hvp : 0 < v.length := by have := HVN.out; omega
      have hvnp : 0 < vn := by omega
      have hn0 : ((vn : Int) == 0) = false := by simp; omega
      have hn1 : ¬ ((vn : Int) = 0) := by omega
      have hmx := fun W k => max_any v vA vc W k HVM.out hvp
      have hix := fun M ht W k => indexOf_any v vA vc M W k HVM.out ht
      rw [← HVN.out] at hmx hix
      have HMX := Lib.hid hmx
      have HIX := Lib.hid hix
      have HQ := Lib.hid (fun (W : World) (q : Nat) (e : W = w3.drewN q) => (HV3.out.drewN q))
      clear hz hvp hmx hix
      obtain ⟨M, hTM⟩ : ∃ M, TopV v vn M := TopV.ex v _ (by omega)
      obtain ⟨y, hyT, hyM⟩ : ∃ y, IsTop v y ∧ ∀ e W' (W : World), (∃ y' : Nat, e = Ending.returned (.int .i64 (y' : Int)) ∧ IsTop v y' ∧ v.getD y' 0 = M ∧ W' = W) → e = .returned (.int .i64 (y : Int)) ∧ W' = W := by
        obtain ⟨y0, hy0⟩ := TopV.top (v := v) (M := M) (by rw [← HVN.out]; exact hTM)
        exact ⟨y0, hy0, fun e W' W ⟨y', h1, h2, h3, h4⟩ => ⟨by rw [h1, h2.uniq hy0], h4⟩⟩
      have HC1 := Lib.hid (fun q : Nat => (HMX.out (w3.drewN q) (HV3.out.drewN q)).mono (R' := fun e w' => e = .returned (.int .i64 M) ∧ w' = w3.drewN q) (by
        rintro e w' ⟨M', h1, h2, h3⟩
        exact ⟨by rw [h1, h2.uniq hTM], h3⟩))
      have HC2 := Lib.hid (fun q : Nat => (HIX.out M hTM (w3.drewN q) (HV3.out.drewN q)).mono (R' := fun e w' => e = .returned (.int .i64 (y : Int)) ∧ w' = w3.drewN q) (fun e w' h => hyM e w' _ h))
      have hyl : y < l.length := by have := hyT.lt; rw [HSOL.out.2.vlen] at this; exact this
      have HYT := Lib.hid hyT
      have hdL : dn = L := by rw [HDN.out, HSOL.out.2.blen, HL.out]
      have hvL : vn = L := by rw [HVN.out, HSOL.out.2.vlen, HL.out]
      have hb31 := ((valid_ok HSOL.out.1).2.2 y hyl).2
      have HCH := Lib.hid (fun q : Nat => ychain_any l A dA vA c dc vc L wt bs v HL.out HSOL.out.1 HSOL.out.2 32 y (by rw [HL.out]; exact hyl) (by omega) (w3.drewN q) ((H.out.below HB3.out).drewN q) (HD3.out.drewN q) (HV3.out.drewN q))
      have HB4 := Lib.hid (fun q : Nat => (bdn HB3.out : Below w.heap.size w (w3.drewN q)))
      obtain ⟨j0, j1, jl⟩ := HJ3.out
      clear hTM hyT hyM HMX HIX hb31
      go_upto_region 4 with fail
      obtain ⟨q0, e0⟩ : ∃ x, x = w3.drewN 1 := ⟨_, rfl⟩
      have F0 : q0.cell? ⟨g5, 1, none⟩ = some (.slice vA vn vc) := by rw [e0]; exact x1
      have C1 := HC1.out 1
      have C2 := HC2.out 1
      have CC := HCH.out 1
      have B1 := HB4.out 1
      rw [← e0] at C1 C2 CC B1
      have jq0 : q0.cell? ⟨b, 0, none⟩ = some (.slice A L c) := by rw [e0]; exact j0
      have jq1 : q0.cell? ⟨b, 1, none⟩ = some (.int .i64 wt) := by rw [e0]; exact j1
      have xq0 : q0.cell? ⟨g5, 0, none⟩ = some (.slice dA dn dc) := by rw [e0]; exact x0
      have HJQ := Lib.hid (And.intro jq0 (And.intro jq1 (And.intro xq0 F0)))
      have HC1 := Lib.hid C1
      have HC2 := Lib.hid C2
      have HCH := Lib.hid CC
      have HB4 := Lib.hid B1
      have HE0 := Lib.hid e0
      clear e0 C1 C2 CC B1 jq0 jq1 xq0 x0 j0 j1 jl
      refine AnyT.begin_at tlN (fun X => X.cell? ⟨g5, 1, none⟩ = some (.slice vA vn vc)) (by kernel_rfl) HE0.out F0 ?_
      clear F0
      intro F0
-- TAKES R4
      refine AnyT.takeD (i := 0) (d := some 21) (v := .pointer (some ⟨g5, 1, none⟩)) rfl rfl (by kernel_rfl) (by kernel_rfl) (by kernel_rfl) (by kernel_rfl) (fun _ _ _ h => h) (Or.inl ⟨by rfl, fun wz _ => by go_simp⟩) F0 ?_
      simp only [Act.put, List.setIfInBounds_toArray, List.set_cons_zero, List.set_cons_succ]
      refine AnyT.takeD (i := 1) (d := some 22) (v := .slice vA vn vc) rfl rfl (by kernel_rfl) (by kernel_rfl) (by kernel_rfl) (by kernel_rfl) (fun _ _ _ h => h) (Or.inl ⟨by rfl, fun wz hz => by have z0 := hz; go_simp⟩) F0 ?_
      simp only [Act.put, List.setIfInBounds_toArray, List.set_cons_zero, List.set_cons_succ]
      refine AnyT.takeD (i := 2) (d := some 23) (v := .pointer (some ⟨g5, 1, none⟩)) rfl rfl (by kernel_rfl) (by kernel_rfl) (by kernel_rfl) (by kernel_rfl) (fun _ _ _ h => h) (Or.inl ⟨by rfl, fun wz _ => by go_simp⟩) F0 ?_
      simp only [Act.put, List.setIfInBounds_toArray, List.set_cons_zero, List.set_cons_succ]
      refine AnyT.takeD (i := 3) (d := some 24) (v := .slice vA vn vc) rfl rfl (by kernel_rfl) (by kernel_rfl) (by kernel_rfl) (by kernel_rfl) (fun _ _ _ h => h) (Or.inl ⟨by rfl, fun wz hz => by have z0 := hz; go_simp⟩) F0 ?_
      simp only [Act.put, List.setIfInBounds_toArray, List.set_cons_zero, List.set_cons_succ]
      -- TAKEN R4
      refine AnyT.branch (rs := [4]) (by kernel_rfl) (by simp) ?_
      refine all_cons (?_) all_nil
      refine AnyT.enter (i := 4) (d := some 25) (f := 110) (args := #[.slice vA vn vc]) rfl rfl rfl (by go_simp) HC1.out ?_
      rintro e q1 ⟨rfl, hq1⟩
      subst hq1
      refine ⟨_, rfl, fun _ => F0, ?_⟩
      simp only [Act.put, List.setIfInBounds_toArray, List.set_cons_zero, List.set_cons_succ]
      refine AnyT.branch (rs := [5]) (by kernel_rfl) (by simp) ?_
      refine all_cons (?_) all_nil
      refine AnyT.enter (i := 5) (d := some 26) (f := 111) (args := #[.slice vA vn vc, .int .i64 M]) rfl rfl rfl (by go_simp) HC2.out ?_
      rintro e q1 ⟨rfl, hq1⟩
      subst hq1
      refine ⟨_, rfl, fun _ => F0, ?_⟩
      simp only [Act.put, List.setIfInBounds_toArray, List.set_cons_zero, List.set_cons_succ]
      refine AnyT.takeD (i := 6) (d := some 6) (v := .int .i64 (y : Int)) rfl rfl (by kernel_rfl) (by kernel_rfl) (by kernel_rfl) (by kernel_rfl) (fun _ _ _ h => h) (Or.inl ⟨by rfl, fun wz _ => by go_simp⟩) F0 ?_
      simp only [Act.put, List.setIfInBounds_toArray, List.set_cons_zero, List.set_cons_succ]
      refine AnyT.done_ (by kernel_rfl) ?_ _
      clear F0 HC1 HC2 x1
      obtain ⟨jq0, jq1, xq0, xq1⟩ := HJQ.out
      subst hdL
      subst hvL
      go_wp2_with fail
      refine HCH.out.mono ?_
      rintro e w4 ⟨u, ch, rfl, hch, O4, B4⟩
      have HO := Lib.hid (O4.base HB4.out.size)
      have HB5 := Lib.hid (HB4.out.trans (B4.mono HB4.out.size))
      have RR := Lib.hid (show WitR l wt (toZ ch) 0 from Or.inr (Or.inr ⟨HSOL.out.1, rfl, bs, v, HSOL.out.2, Or.inr ⟨y, ch, HYT.out, hch, rfl⟩⟩))
      clear hch O4 B4 HCH
      go_wp2_with fail
      go_ret2
      exact ⟨_, 0, toZ ch, rfl, HO.out, HB5.out, RR.out⟩
  · have hne : (er != 0) = true := bne_iff_ne.2 he
    have RR := Lib.hid (show WitR l wt [] er from by
      rcases HR.out with ⟨h1, h2, _, _⟩ | ⟨h1, h2, _, _, h5⟩ | ⟨_, h2, _⟩
      · exact Or.inl ⟨h1, h2, rfl⟩
      · exact Or.inr (Or.inl ⟨h1, h2, rfl, h5⟩)
      · exact absurd h2 he)
    clear he
    go_wp2_with fail
    go_ret2
    exact ⟨_, er, [], rfl, Own.nil, HB3.out, RR.out⟩
end Go.Proofs.YtimkmieohkefiaaGreat

namespace Go.Proofs.YtimkmieohkefiaaGreat
open Go.RowKit Go.Lib

/-- A proof's value and its box. -/
abbrev qv (st : Int) (A : Option Addr) (n c : Nat) (B : Option Addr) (m d : Nat) : Value := .agg #[.int .i64 st, .slice A n c, .slice B m d]
abbrev qcells (st : Int) (A : Option Addr) (n c : Nat) (B : Option Addr) (m d : Nat) : Obj := .cells #[.int .i64 st, .slice A n c, .slice B m d] 41
structure QBox (w : World) (b : Nat) (st : Int) (A : Option Addr) (n c : Nat) (B : Option Addr) (m d : Nat) : Prop where
  c0 : w.cell? ⟨b, 0, none⟩ = some (.int .i64 st)
  c1 : w.cell? ⟨b, 1, none⟩ = some (.slice A n c)
  c2 : w.cell? ⟨b, 2, none⟩ = some (.slice B m d)
  f : ∀ j, w.frozen? ⟨b, j, none⟩ = false
  lt : b < w.heap.size
theorem QBox.below {w w' : World} {b n c m d K : Nat} {st : Int} {A B : Option Addr} (h : QBox w b st A n c B m d) (k : Below K w w') (hb : b < K) : QBox w' b st A n c B m d :=
  ⟨(k.cell (p := ⟨b, 0, none⟩) hb).trans h.c0, (k.cell (p := ⟨b, 1, none⟩) hb).trans h.c1, (k.cell (p := ⟨b, 2, none⟩) hb).trans h.c2, fun j => (k.frozen (p := ⟨b, j, none⟩) hb).trans (h.f j), Nat.lt_of_lt_of_le h.lt k.size⟩
theorem QBox.moves {mm : Nat} {w w' : World} {b n c m d : Nat} {st : Int} {A B : Option Addr} (h : QBox w b st A n c B m d) (k : Moves mm w w') (hb : b ≠ mm) : QBox w' b st A n c B m d :=
  ⟨(k.cell (p := ⟨b, 0, none⟩) h.lt hb).trans h.c0, (k.cell (p := ⟨b, 1, none⟩) h.lt hb).trans h.c1, (k.cell (p := ⟨b, 2, none⟩) h.lt hb).trans h.c2, fun j => (k.frozen (p := ⟨b, j, none⟩) h.lt hb).trans (h.f j), Nat.lt_of_lt_of_le h.lt k.size⟩
theorem QBox.new {w : World} {st : Int} {A B : Option Addr} {n c m d : Nat} (b : Nat) (hb : b = w.heap.size) : QBox (w.alloc (qcells st A n c B m d)) b st A n c B m d := by
  subst hb; exact ⟨by rw [cell_new]; rfl, by rw [cell_new]; rfl, by rw [cell_new]; rfl, fun j => frozen_new _ _ _ _ _ rfl, by simp⟩
theorem ne_of {p i j : Nat} (h : i ≠ j) : (⟨p, i, none⟩ : Addr) ≠ ⟨p, j, none⟩ := fun e => h (congrArg Addr.off e)
theorem QBox.set0 {w : World} {b n c m d : Nat} {st : Int} {A B : Option Addr} (h : QBox w b st A n c B m d) (st' : Int) : QBox (w.setCell ⟨b, 0, none⟩ (.int .i64 st')) b st' A n c B m d :=
  ⟨World.cell?_setCell_same _ _ _ h.c0, by rw [World.cell?_setCell_other _ _ _ _ (ne_of (by decide))]; exact h.c1, by rw [World.cell?_setCell_other _ _ _ _ (ne_of (by decide))]; exact h.c2, fun j => by rw [World.frozen?_setCell]; exact h.f j, by rw [World.size_setCell]; exact h.lt⟩
theorem QBox.set1 {w : World} {b n c m d : Nat} {st : Int} {A B : Option Addr} (h : QBox w b st A n c B m d) (A' : Option Addr) (n' c' : Nat) : QBox (w.setCell ⟨b, 1, none⟩ (.slice A' n' c')) b st A' n' c' B m d :=
  ⟨by rw [World.cell?_setCell_other _ _ _ _ (ne_of (by decide))]; exact h.c0, World.cell?_setCell_same _ _ _ h.c1, by rw [World.cell?_setCell_other _ _ _ _ (ne_of (by decide))]; exact h.c2, fun j => by rw [World.frozen?_setCell]; exact h.f j, by rw [World.size_setCell]; exact h.lt⟩
theorem QBox.set2 {w : World} {b n c m d : Nat} {st : Int} {A B : Option Addr} (h : QBox w b st A n c B m d) (B' : Option Addr) (m' d' : Nat) : QBox (w.setCell ⟨b, 2, none⟩ (.slice B' m' d')) b st A n c B' m' d' :=
  ⟨by rw [World.cell?_setCell_other _ _ _ _ (ne_of (by decide))]; exact h.c0, by rw [World.cell?_setCell_other _ _ _ _ (ne_of (by decide))]; exact h.c1, World.cell?_setCell_same _ _ _ h.c2, fun j => by rw [World.frozen?_setCell]; exact h.f j, by rw [World.size_setCell]; exact h.lt⟩
theorem QBox.put {w : World} {b n c m d : Nat} {st : Int} {A B : Option Addr} (h : QBox w b st A n c B m d) (st' : Int) (A' : Option Addr) (n' c' : Nat) (B' : Option Addr) (m' d' : Nat) :
    QBox (((w.setCell ⟨b, 0, none⟩ (.int .i64 st')).setCell ⟨b, 1, none⟩ (.slice A' n' c')).setCell ⟨b, 2, none⟩ (.slice B' m' d')) b st' A' n' c' B' m' d' := ((h.set0 st').set1 A' n' c').set2 B' m' d'
theorem results_proof {fn : Func} (hf : fn.results = #[.cell 2 41, .tmp 3]) (tmps : Array Value) (w : World) (b : Nat) (st er : Int) (A B : Option Addr) (n c m d : Nat) (h2 : tmps.getD 2 undef = .pointer (some ⟨b, 0, none⟩)) (h3 : tmps.getD 3 undef = .int .i64 er) (q : QBox w b st A n c B m d) :
    (results fn tmps).run Tryz.prog w = .ok (.tuple #[qv st A n c B m d, .int .i64 er]) w := by
  have h2' : tmps[2]?.getD undef = .pointer (some ⟨b, 0, none⟩) := by simpa using h2
  have h3' : tmps[3]?.getD undef = .int .i64 er := by simpa using h3
  simp [results, hf, go_sem, h2', h3', q.c0, q.c1, q.c2, asAddr]
end Go.Proofs.YtimkmieohkefiaaGreat

namespace Go.Proofs.YtimkmieohkefiaaGreat
open Go.RowKit Go.Lib

end Go.Proofs.YtimkmieohkefiaaGreat

namespace Go.Proofs.YtimkmieohkefiaaGreat
open Go.RowKit Go.Lib

/-- Two lists of the call's own lie apart. -/
def Apt (u v : Value) : Prop := ∀ g, u.ownBlock = some g → v.ownBlock ≠ some g
theorem Apt.symm {u v : Value} (h : Apt u v) : Apt v u := fun g h1 h2 => h g h2 h1
/-- What is known while the items of one train are gathered. -/
structure TSt (w5 wr : World) (bp base : Nat) (Ap : Option Addr) (cp : Nat) (wt : Int) (ps : List It) (vw : Value) (zs : List Int) : Prop where
  box : JBox wr bp Ap ps.length cp wt
  fz : ∀ j, wr.frozen? ⟨bp, j, none⟩ = false
  its : IOwn 52 wr base (.slice Ap ps.length cp) ps
  wan : Own .i64 3 wr base vw zs
  apt : Apt (.slice Ap ps.length cp) vw
  bel : Below bp w5 wr
  lt : bp < base
  le : base ≤ wr.heap.size
theorem TSt.below {w5 wr wr' : World} {bp base cp : Nat} {Ap : Option Addr} {wt : Int} {ps : List It} {vw : Value} {zs : List Int} (h : TSt w5 wr bp base Ap cp wt ps vw zs) (k : Below wr.heap.size wr wr') : TSt w5 wr' bp base Ap cp wt ps vw zs :=
  ⟨h.box.below k h.box.lt, fun j => (k.frozen (p := ⟨bp, j, none⟩) h.box.lt).trans (h.fz j), h.its.below k, h.wan.below k, h.apt, h.bel.trans (k.mono (Nat.le_of_lt h.box.lt)), h.lt, Nat.le_trans h.le k.size⟩
theorem TSt.app {w5 W w' : World} {bp base cp g cap : Nat} {Ap : Option Addr} {wt : Int} {ps : List It} {vw : Value} {zs : List Int} {p : It} (h : TSt w5 W bp base Ap cp wt ps vw zs)
    (ho : IOwn 52 w' base (.slice (some ⟨g, 0, none⟩) (ps ++ [p]).length cap) (ps ++ [p])) (hg : W.grownBy w' (Value.slice Ap ps.length cp).ownBlock) (hat : (Value.slice Ap ps.length cp).ownBlock = some g ∨ g = W.heap.size) :
    TSt w5 (w'.setCell ⟨bp, 0, none⟩ (.slice (some ⟨g, 0, none⟩) (ps ++ [p]).length cap)) bp base (some ⟨g, 0, none⟩) cap wt (ps ++ [p]) vw zs ∧ (∃ u, w'.cell? ⟨bp, 0, none⟩ = some u) ∧ w'.frozen? ⟨bp, 0, none⟩ = false := by
  have hne : ∀ k, (Value.slice Ap ps.length cp).ownBlock = some k → bp < k := fun k hk => by have := (h.its.block hk).1; have := h.lt; omega
  have hbp : (Value.slice Ap ps.length cp).ownBlock ≠ some bp := fun e => by have := hne bp e; omega
  have hgb : bp < g := by
    rcases hat with e | e
    · exact hne g e
    · have := h.le; have := h.lt; omega
  have hblk : w'.heap[bp]? = W.heap[bp]? := hg.block bp h.box.lt (fun e => hbp e.symm)
  have c0 : w'.cell? ⟨bp, 0, none⟩ = some (.slice Ap ps.length cp) := (World.cell?_of_block (w := W) hblk).trans h.box.c0
  have c1 : w'.cell? ⟨bp, 1, none⟩ = some (.int .i64 wt) := (World.cell?_of_block (w := W) hblk).trans h.box.c1
  have f : ∀ j, w'.frozen? ⟨bp, j, none⟩ = false := fun j => (World.frozen?_of_block (w := W) hblk).trans (h.fz j)
  have gs : w'.grownBy (w'.setCell ⟨bp, 0, none⟩ (.slice (some ⟨g, 0, none⟩) (ps ++ [p]).length cap)) (some bp) :=
    ⟨rfl, rfl, rfl, by rw [World.size_setCell]; exact Nat.le_refl _, fun k hk hn => Below.heap_setCell _ _ _ _ (fun e => hn (by first | exact congrArg some e | exact congrArg some e.symm))⟩
  have hvne : ∀ k, vw.ownBlock = some k → base ≤ k ∧ k < W.heap.size := fun k hk => own_block h.wan hk
  have wan1 : Own .i64 3 w' base vw zs := h.wan.kept hg (by
    cases hv : vw.ownBlock with
    | none => exact Or.inl rfl
    | some k => exact Or.inr (fun e => h.apt k e.symm hv))
  refine ⟨⟨⟨World.cell?_setCell_same _ _ _ c0, (World.cell?_setCell_other _ _ _ _ (by simp)).trans c1, by rw [World.size_setCell]; exact Nat.lt_of_lt_of_le h.box.lt hg.size⟩, fun j => by rw [World.frozen?_setCell]; exact f j, ?_, ?_, ?_, ?_, h.lt, by rw [World.size_setCell]; exact Nat.le_trans h.le hg.size⟩, ⟨_, c0⟩, f 0⟩
  · exact ho.kept gs (Or.inr (fun e => by have : g = bp := by simpa [Value.ownBlock] using e
                                          omega))
  · refine wan1.kept gs ?_
    cases hv : vw.ownBlock with
    | none => exact Or.inl rfl
    | some k => exact Or.inr (fun e => by have := (hvne k hv).1; have := h.lt; have : k = bp := by simpa using e
                                          omega)
  · intro k hk hv
    have e : g = k := by simpa [Value.ownBlock] using hk
    subst e
    rcases hat with e | e
    · exact h.apt g e hv
    · have := (hvne g hv).2; omega
  · exact ((h.bel.grown hg (Nat.le_of_lt h.box.lt) (fun k hk => Nat.le_of_lt (hne k hk))).setCell (p := ⟨bp, 0, none⟩) (Nat.le_refl bp) _)
end Go.Proofs.YtimkmieohkefiaaGreat

namespace Go.Proofs.YtimkmieohkefiaaGreat
open Go.RowKit Go.Lib

/-- Block b is the set bs. -/
def BSet (w : World) (b : Nat) (bs : List Bool) : Prop := w.heap[b]? = some (.cells (bs.map Value.bool).toArray 4 (0, 0))
theorem BSet.lt {w : World} {b : Nat} {bs : List Bool} (h : BSet w b bs) : b < w.heap.size := (Array.getElem?_eq_some_iff.1 h).1
theorem BSet.below {w w' : World} {b B : Nat} {bs : List Bool} (h : BSet w b bs) (k : Below B w w') (hb : b < B) : BSet w' b bs := (k.block b hb).trans h
theorem BSet.drewN {w : World} {b : Nat} {bs : List Bool} (h : BSet w b bs) (n : Nat) : BSet (w.drewN n) b bs := h
theorem BSet.cell {w : World} {b : Nat} {bs : List Bool} (h : BSet w b bs) (j : Nat) (hj : j < bs.length) : w.cell? ⟨b, j, none⟩ = some (.bool (bs.getD j false)) := by
  unfold World.cell?
  rw [h]
  simp [hj]
theorem BSet.frozen {w : World} {b : Nat} {bs : List Bool} (h : BSet w b bs) (j : Nat) : w.frozen? ⟨b, j, none⟩ = false := frozen_of_row w b j _ 4 h
theorem BSet.set {w : World} {b : Nat} {bs : List Bool} (h : BSet w b bs) (j : Nat) (x : Bool) : BSet (w.setCell ⟨b, j, none⟩ (.bool x)) b (bs.set j x) := by
  have := heap_setCell_same w b j _ 4 (.bool x) h
  unfold BSet
  rw [this]
  simp
theorem BSet.new (w : World) (bs : List Bool) (b : Nat) (hb : b = w.heap.size) : BSet (w.alloc (.cells (bs.map Value.bool).toArray 4)) b bs := by subst hb; exact heap_alloc_new w _
/-- The slice from A on reads as lists. -/
def PP (w : World) (A : Option Addr) (ps : List (List Int)) : Prop :=
  ∀ k p, ps[k]? = some p → ∃ ad : Addr, A = some ad ∧ ad.block < w.heap.size ∧ ∃ a c, w.cell? (ad.add k) = some (.slice a p.length c) ∧ Row .i64 w w.heap.size a p ∧ p.length ≤ maxLen
theorem PP.below {w w' : World} {A : Option Addr} {ps : List (List Int)} (h : PP w A ps) (b : Below w.heap.size w w') : PP w' A ps := fun k p hk => by
  obtain ⟨ad, e, hb, a, c, hc, hr, hm⟩ := h k p hk
  exact ⟨ad, e, Nat.lt_of_lt_of_le hb b.size, a, c, (b.cell (by rw [add_block]; exact hb)).trans hc, hr.below b, hm⟩
theorem PP.drewN {w : World} {A : Option Addr} {ps : List (List Int)} (h : PP w A ps) (n : Nat) : PP (w.drewN n) A ps := h.below ⟨rfl, rfl, rfl, Nat.le_refl _, fun _ _ => rfl⟩
theorem PP.nil {w : World} {A : Option Addr} : PP w A [] := fun k p hk => by simp at hk
theorem getD_ex {α : Type} {l : List α} {k : Nat} (z : α) (h : k < l.length) : l[k]? = some (l.getD k z) := by
  rw [List.getD_eq_getElem?_getD, List.getElem?_eq_getElem h]; rfl
theorem PP.at_ {w : World} {A : Option Addr} {ps : List (List Int)} (h : PP w A ps) {k : Nat} (hk : k < ps.length) :
    ∃ ad : Addr, A = some ad ∧ ∃ a c, w.cell? (ad.add k) = some (.slice a (ps.getD k []).length c) ∧ Row .i64 w w.heap.size a (ps.getD k []) ∧ (ps.getD k []).length ≤ maxLen := by
  obtain ⟨ad, e, _, a, c, h1, h2, h3⟩ := h k _ (getD_ex [] hk)
  exact ⟨ad, e, a, c, h1, h2, h3⟩
/-- Whether index x may come next in the list of train t, behind index p. -/
def stepOk (l : List It) (t : Int) (prev : Option Int) (seen : List Bool) (x : Int) : Bool :=
  (btw x 0 ((l.length : Int) - 1) && (!seen.getD x.toNat false && decide (trn l x.toNat = t))) && (match prev with | none => true | some p => !decide (blk l x.toNat < blk l p.toNat))
def goL (l : List It) (t : Int) (prev : Option Int) (seen : List Bool) : List Int → Option (List Bool)
  | [] => some seen
  | x :: r => if stepOk l t prev seen x = true then goL l t (some x) (seen.set x.toNat true) r else none
theorem drop_any {α : Type} {l : List α} {k : Nat} (z : α) (hk : k < l.length) : l.drop k = l.getD k z :: l.drop (k + 1) := by
  rw [List.drop_eq_getElem_cons hk, List.getD_eq_getElem?_getD, List.getElem?_eq_getElem hk]; rfl
/-- The index ahead of place n. -/
def prvS (p : List Int) (n : Nat) : Option Int := if n = 0 then none else some (p.getD (n - 1) 0)
theorem goL_ok {l : List It} {t : Int} {prev : Option Int} {seen : List Bool} {x : Int} {r : List Int} (h : stepOk l t prev seen x = true) : goL l t prev seen (x :: r) = goL l t (some x) (seen.set x.toNat true) r := if_pos h
theorem goL_no {l : List It} {t : Int} {prev : Option Int} {seen : List Bool} {x : Int} {r : List Int} (h : stepOk l t prev seen x = false) : goL l t prev seen (x :: r) = none := if_neg (by rw [h]; exact Bool.false_ne_true)
end Go.Proofs.YtimkmieohkefiaaGreat

namespace Go.Proofs.YtimkmieohkefiaaGreat
open Go.RowKit Go.Lib

structure OL (w : World) (g base : Nat) (vs : List Value) (ts : List (List Int)) : Prop where
  blk : w.heap[g]? = some (.cells vs.toArray 22 (0, 0))
  len : vs.length = ts.length
  own : ∀ (k : Nat) v t, vs[k]? = some v → ts[k]? = some t → Own .i64 3 w base v t
  apt : ∀ (j k : Nat) u v, j ≠ k → vs[j]? = some u → vs[k]? = some v → Apt u v
  gb : g < base
  le : base ≤ w.heap.size
section
variable {w w' : World} {g base : Nat} {vs : List Value} {ts : List (List Int)}
theorem OL.lt (h : OL w g base vs ts) : g < w.heap.size := (Array.getElem?_eq_some_iff.1 h.blk).1
theorem OL.cell (h : OL w g base vs ts) {k : Nat} {v : Value} (hk : vs[k]? = some v) : w.cell? ⟨g, k, none⟩ = some v := by
  unfold World.cell?
  rw [h.blk]
  obtain ⟨h1, h2⟩ := List.getElem?_eq_some_iff.1 hk
  simp [h1, h2]
theorem OL.frozen (h : OL w g base vs ts) (j : Nat) : w.frozen? ⟨g, j, none⟩ = false := frozen_of_row w g j _ 22 h.blk
theorem OL.below (h : OL w g base vs ts) (b : Below w.heap.size w w') : OL w' g base vs ts :=
  ⟨(b.block g h.lt).trans h.blk, h.len, fun k v t h1 h2 => (h.own k v t h1 h2).below b, h.apt, h.gb, Nat.le_trans h.le b.size⟩
theorem OL.moves {m : Nat} (h : OL w g base vs ts) (b : Moves m w w') (hm : m < g) : OL w' g base vs ts :=
  ⟨(b.block g h.lt (by omega)).trans h.blk, h.len, fun k v t h1 h2 => (h.own k v t h1 h2).moves b (by have := h.gb; omega), h.apt, h.gb, Nat.le_trans h.le b.size⟩
theorem OL.drewN (h : OL w g base vs ts) (n : Nat) : OL (w.drewN n) g base vs ts := h.below ⟨rfl, rfl, rfl, Nat.le_refl _, fun _ _ => rfl⟩
theorem setCell_grown (w : World) (p : Addr) (u : Value) : w.grownBy (w.setCell p u) (some p.block) :=
  ⟨rfl, rfl, rfl, by rw [World.size_setCell]; exact Nat.le_refl _, fun k hk hn => Below.heap_setCell _ _ _ _ (fun e => hn (by first | exact congrArg some e | exact congrArg some e.symm))⟩
/-- List k grows, and is put back. -/
theorem OL.app {k : Nat} {v v' : Value} {t : List Int} {y : Int} (h : OL w g base vs ts) (hv : vs[k]? = some v) (ht : ts[k]? = some t) (A : AppI base v t y w v' w') :
    w'.cell? ⟨g, k, none⟩ = some v ∧ w'.frozen? ⟨g, k, none⟩ = false ∧ OL (w'.setCell ⟨g, k, none⟩ v') g base (vs.set k v') (ts.set k (t ++ [y])) := by
  obtain ⟨O', hg, g', c, rfl, hlt, hat⟩ := A
  have O := h.own k v t hv ht
  have hvb : ∀ j, v.ownBlock = some j → base ≤ j := fun j hj => (own_block O hj).1
  have hgv : v.ownBlock ≠ some g := fun e => by have := hvb g e; have := h.gb; omega
  have hb : w'.heap[g]? = some (.cells vs.toArray 22 (0, 0)) := (hg.block g h.lt (fun e => hgv e.symm)).trans h.blk
  have hgg : base ≤ g' := by
    rcases hat with e | e
    · exact hvb g' e
    · have := h.le; omega
  have hc : w'.cell? ⟨g, k, none⟩ = some v := by
    unfold World.cell?
    rw [hb]
    obtain ⟨h1, h2⟩ := List.getElem?_eq_some_iff.1 hv
    simp [h1, h2]
  refine ⟨hc, frozen_of_row w' g k _ 22 hb, ⟨?_, by rw [List.length_set, List.length_set]; exact h.len, ?_, ?_, h.gb, by rw [World.size_setCell]; exact Nat.le_trans h.le hg.size⟩⟩
  · rw [heap_setCell_same w' g k _ 22 _ hb]; simp
  · intro j u s hu hs
    rw [List.getElem?_set] at hu hs
    by_cases e : k = j
    · subst e
      rw [if_pos rfl] at hu hs
      split at hu
      · injection hu with hu
        split at hs
        · injection hs with hs
          rw [← hu, ← hs]
          exact O'.kept (setCell_grown w' ⟨g, k, none⟩ _) (Or.inr (fun e => absurd (show g' = g by simpa [Value.ownBlock] using e) (by have := h.gb; omega)))
        · cases hs
      · cases hu
    · rw [if_neg e] at hu hs
      have Oj := h.own j u s hu hs
      have k1 : Own .i64 3 w' base u s := Oj.kept hg (by
        cases hq : u.ownBlock with
        | none => exact Or.inl rfl
        | some q => exact Or.inr (fun e2 => h.apt k j v u e hv hu q e2.symm hq))
      refine k1.kept (setCell_grown w' ⟨g, k, none⟩ _) ?_
      cases hq : u.ownBlock with
      | none => exact Or.inl rfl
      | some q => exact Or.inr (fun e2 => absurd (show q = g by simpa using e2) (by have h1 := (own_block Oj hq).1; have := h.gb; omega))
  · intro i j u s hij hu hs
    have fresh : ∀ q u, q ≠ k → vs[q]? = some u → Apt (.slice (some ⟨g', 0, none⟩) (t.length + 1) c) u := fun q u hq hu b hb1 hb2 => by
      have e : g' = b := by simpa [Value.ownBlock] using hb1
      subst e
      rcases hat with e | e
      · exact h.apt k q v u (Ne.symm hq) hv hu g' e hb2
      · have hul : q < ts.length := by rw [← h.len]; exact (List.getElem?_eq_some_iff.1 hu).1
        have := (own_block (h.own q u _ hu (List.getElem?_eq_getElem hul)) hb2).2
        omega
    rw [List.getElem?_set] at hu hs
    by_cases e1 : k = i
    · subst e1
      rw [if_pos rfl] at hu
      rw [if_neg hij] at hs
      split at hu
      · injection hu with hu
        rw [← hu]; exact fresh j s (Ne.symm hij) hs
      · cases hu
    · rw [if_neg e1] at hu
      by_cases e2 : k = j
      · subst e2
        rw [if_pos rfl] at hs
        split at hs
        · injection hs with hs
          rw [← hs]; exact (fresh i u hij hu).symm
        · cases hs
      · rw [if_neg e2] at hs
        exact h.apt i j u s hij hu hs
/-- A number of list k is written. -/
theorem OL.store {k b n c : Nat} {t : List Int} (h : OL w g base vs ts) (hv : vs[k]? = some (.slice (some ⟨b, 0, none⟩) n c)) (ht : ts[k]? = some t) (hn : n = t.length) (j : Nat) (x : Int) :
    OL (w.setCell ⟨b, j, none⟩ (.int .i64 x)) g base vs (ts.set k (t.set j x)) := by
  have O := h.own k _ t hv ht
  have hb := own_block O (g := b) rfl
  have hkl : k < ts.length := (List.getElem?_eq_some_iff.1 ht).1
  refine ⟨(Below.heap_setCell _ _ _ _ (by have := h.gb; show g ≠ b; omega)).trans h.blk, by rw [List.length_set]; exact h.len, ?_, h.apt, h.gb, by rw [World.size_setCell]; exact h.le⟩
  intro q u s hu hs
  rw [List.getElem?_set] at hs
  by_cases e : k = q
  · subst e
    rw [if_pos rfl, if_pos hkl] at hs
    injection hs with hs
    rw [hu] at hv
    injection hv with hv
    rw [hv, ← hs]
    exact O.store hn j x
  · rw [if_neg e] at hs
    refine (h.own q u s hu hs).kept (setCell_grown w ⟨b, j, none⟩ _) ?_
    cases hq : u.ownBlock with
    | none => exact Or.inl rfl
    | some q' => exact Or.inr (fun e2 => h.apt k q _ u e hv hu b rfl (by rw [hq]; exact e2))
theorem OL.pp (h : OL w g base vs ts) : PP w (some ⟨g, 0, none⟩) ts := fun k p hk => by
  have hkl : k < vs.length := by rw [h.len]; exact (List.getElem?_eq_some_iff.1 hk).1
  have hv := List.getElem?_eq_getElem hkl
  have O := h.own k _ p hv hk
  obtain ⟨A, c, e, R, _, hm, _⟩ := O.slice
  refine ⟨_, rfl, h.lt, A, c, ?_, R, hm⟩
  rw [add_own, ← e]
  exact h.cell hv
end
theorem OL.new (w : World) : OL (w.alloc (.cells #[.slice none 0 0, .slice none 0 0, .slice none 0 0] 22)) w.heap.size (w.heap.size + 1) [.slice none 0 0, .slice none 0 0, .slice none 0 0] [[], [], []] := by
  refine ⟨heap_alloc_new w _, rfl, fun k v t hv ht => ?_, fun j k u v _ hu hv => ?_, Nat.lt_succ_self _, by simp⟩
  · match k with
    | 0 => injection hv with hv; injection ht with ht; subst hv; subst ht; exact Own.nil
    | 1 => injection hv with hv; injection ht with ht; subst hv; subst ht; exact Own.nil
    | 2 => injection hv with hv; injection ht with ht; subst hv; subst ht; exact Own.nil
    | k + 3 => cases hv
  · intro b hb
    match j with
    | 0 => injection hu with hu; subst hu; cases hb
    | 1 => injection hu with hu; subst hu; cases hb
    | 2 => injection hu with hu; subst hu; cases hb
    | j + 3 => cases hu
theorem infoSli : (Tryz.prog.info? 22).map (fun i => (i.zero, i.size, i.bytes)) = some (some (.slice none 0 0), 1, 24) := by kernel_rfl
/-- The cells of list k. -/
theorem OL.num {w : World} {g base : Nat} {vs : List Value} {ts : List (List Int)} {k b n c : Nat} {t : List Int} (h : OL w g base vs ts) (hv : vs[k]? = some (.slice (some ⟨b, 0, none⟩) n c)) (ht : ts[k]? = some t) (hn : n = t.length) :
    (∀ j, j < n → w.cell? ⟨b, j, none⟩ = some (.int .i64 (t.getD j 0))) ∧ (∀ j, w.frozen? ⟨b, j, none⟩ = false) ∧ g < b := by
  have O := h.own k _ t hv ht
  refine ⟨fun j hj => O.cell hn j (by omega), fun j => O.frozen hn j, ?_⟩
  have := (own_block O (g := b) rfl).1
  have := h.gb
  omega
end Go.Proofs.YtimkmieohkefiaaGreat

namespace Go.Proofs.YtimkmieohkefiaaGreat
open Go.RowKit

/-- The bits from R on that are set, below B. -/
def blN (K R : Nat) : Nat → List Int
  | 0 => []
  | b + 1 => if R ≤ b ∧ K / 2 ^ b % 2 = 1 then blN K R b ++ [(b : Int)] else blN K R b
theorem blN_yes {K R b : Nat} (h : R ≤ b) (h2 : K / 2 ^ b % 2 = 1) : blN K R (b + 1) = blN K R b ++ [(b : Int)] := by
  show (if R ≤ b ∧ K / 2 ^ b % 2 = 1 then _ else _) = _
  rw [if_pos ⟨h, h2⟩]
theorem blN_no {K R b : Nat} (h2 : ¬ K / 2 ^ b % 2 = 1) : blN K R (b + 1) = blN K R b := by
  show (if R ≤ b ∧ K / 2 ^ b % 2 = 1 then _ else _) = _
  rw [if_neg (fun g => h2 g.2)]
theorem blN_low {K R : Nat} : ∀ b, b ≤ R → blN K R b = [] := by
  intro b
  induction b with
  | zero => intro _; rfl
  | succ b ih =>
    intro h
    show (if R ≤ b ∧ K / 2 ^ b % 2 = 1 then _ else _) = _
    rw [if_neg (fun g => by omega), ih (by omega)]
theorem blN_len (K R : Nat) : ∀ b, (blN K R b).length ≤ b := by
  intro b
  induction b with
  | zero => exact Nat.le_refl _
  | succ b ih =>
    by_cases h : R ≤ b ∧ K / 2 ^ b % 2 = 1
    · rw [blN_yes h.1 h.2, List.length_append]; simp; omega
    · show (if R ≤ b ∧ K / 2 ^ b % 2 = 1 then _ else _ : List Int).length ≤ _
      rw [if_neg h]; omega
/-- What Real answers. -/
def realL (k r : Int) : List Int := if rndB r = true ∧ cdB k = true ∧ (k.toNat % 2 ^ r.toNat == 2 ^ r.toNat - 1) = true then blN k.toNat r.toNat 12 else []
def realE (k r : Int) : Int := if rndB r = true ∧ cdB k = true then (if (k.toNat % 2 ^ r.toNat == 2 ^ r.toNat - 1) = true then 0 else 15) else 2
theorem real_bad {k r : Int} (h : ¬ (rndB r = true ∧ cdB k = true)) : realL k r = [] ∧ realE k r = 2 := by
  unfold realL realE
  rw [if_neg (fun g => h ⟨g.1, g.2.1⟩), if_neg h]
  exact ⟨rfl, rfl⟩
theorem rnd_yes {R : Nat} (h : R ≤ 12) : rndB (R : Int) = true := rndB_iff.2 (by omega)
theorem cd_yes {K : Nat} (h : K < 4096) : cdB (K : Int) = true := cdB_iff.2 (by omega)
theorem real_none {K R : Nat} (hR : R ≤ 12) (hK : K < 4096) (h : (K % 2 ^ R == 2 ^ R - 1) = false) : realL K R = [] ∧ realE K R = 15 := by
  unfold realL realE
  rw [rnd_yes hR, cd_yes hK]
  show (if true = true ∧ true = true ∧ (K % 2 ^ R == 2 ^ R - 1) = true then _ else _) = _ ∧ (if true = true ∧ true = true then (if (K % 2 ^ R == 2 ^ R - 1) = true then _ else _) else _) = _
  rw [h]
  exact ⟨rfl, rfl⟩
theorem real_yes {K R : Nat} (hR : R ≤ 12) (hK : K < 4096) (h : (K % 2 ^ R == 2 ^ R - 1) = true) : realL K R = blN K R 12 ∧ realE K R = 0 := by
  unfold realL realE
  rw [rnd_yes hR, cd_yes hK]
  show (if true = true ∧ true = true ∧ (K % 2 ^ R == 2 ^ R - 1) = true then _ else _) = _ ∧ (if true = true ∧ true = true then (if (K % 2 ^ R == 2 ^ R - 1) = true then _ else _) else _) = _
  rw [h]
  exact ⟨rfl, rfl⟩
/-- A list of the call's own, and an error. -/
def RealPost (zs : List Int) (x : Int) (w : World) (e : Ending) (w' : World) : Prop := ∃ v, e = .returned (.tuple #[v, .int .i64 x]) ∧ Own .i64 3 w' w.heap.size v zs ∧ Below w.heap.size w w'
set_option maxHeartbeats 1600000 in
theorem real_any (k r : Int) (w : World) : Calls Tryz.prog 114 #[.int .i64 k, .int .i64 r] w (RealPost (realL k r) (realE k r) w) := by
  by_cases h : rndB r = true ∧ cdB k = true
  · obtain ⟨R, rfl⟩ := Int.eq_ofNat_of_zero_le (rndB_iff.1 h.1).1
    obtain ⟨K, rfl⟩ := Int.eq_ofNat_of_zero_le (cdB_iff.1 h.2).1
    have hR : R ≤ 12 := by have := (rndB_iff.1 h.1).2; omega
    have hK : K < 4096 := by have := (cdB_iff.1 h.2).2; omega
    obtain ⟨h1, h2⟩ := h
    cases hm : (K % 2 ^ R == 2 ^ R - 1)
    · have hz := real_none hR hK hm
      rw [hz.1, hz.2]
      clear hz
      go_enter Tryz.func114, Tryz.ntmps114
      go_wp2_with fail
      refine (isRound_any _ _).mono ?_
      rintro e w1 ⟨rfl, rfl⟩
      rw [h1]
      go_wp2_with fail
      refine (isCode_any _ _).mono ?_
      rintro e w1 ⟨rfl, rfl⟩
      rw [h2]
      go_wp2_with fail
      refine (hasMissed_any _ _ _ hR hK).mono ?_
      rintro e w1 ⟨rfl, rfl⟩
      rw [hm]
      go_wp2_with fail
      go_ret2
      exact ⟨_, rfl, Own.nil, Below.refl _ _⟩
    · have hz := real_yes hR hK hm
      rw [hz.1, hz.2]
      clear hz
      have hl0 := Lib.hid (blN_low (K := K) R (Nat.le_refl R))
      go_enter Tryz.func114, Tryz.ntmps114
      go_wp2_with fail
      refine (isRound_any _ _).mono ?_
      rintro e w1 ⟨rfl, rfl⟩
      rw [h1]
      go_wp2_with fail
      refine (isCode_any _ _).mono ?_
      rintro e w1 ⟨rfl, rfl⟩
      rw [h2]
      go_wp2_with fail
      refine (hasMissed_any _ _ _ hR hK).mono ?_
      rintro e w1 ⟨rfl, rfl⟩
      rw [hm]
      clear hm h1 h2
      go_wp2_with fail
      go_loopw [6, 7] (fun ov iv wr => ∃ b : Nat, R ≤ b ∧ b ≤ 12 ∧ iv = .int .i64 (b : Int) ∧ Hid (Own .i64 3 wr w.heap.size ov (blN K R b)) ∧ Hid (Below w.heap.size w wr)) (fun _ iv _ => 12 - (intOf iv).toNat)
      case atStart => exact ⟨R, Nat.le_refl _, by omega, rfl, Lib.hid (by rw [hl0.out]; exact Own.nil), Lib.hid (Below.refl _ _)⟩
      case round =>
        clear hl0
        obtain ⟨b, hb1, hb, rfl, O, B⟩ := hrel
        by_cases hlt : b < 12
        · have hlt' : (b : Int) < 12 := by omega
          go_wp2_with fail
          refine (hasBit_any _ _ _ hK (by omega)).mono ?_
          rintro e w1 ⟨rfl, rfl⟩
          by_cases hbit : K / 2 ^ b % 2 = 1
          · have HS := Lib.hid (blN_yes hb1 hbit)
            rw [show (K / 2 ^ b % 2 == 1) = true from beq_iff_eq.2 hbit]
            clear hbit
            have hll := Nat.le_trans (blN_len K R b) hb
            go_wp2_with (first | (at_builtin; refine wpList_appI _ rfl (.tmp 28) (.tmp 30) rfl w.heap.size _ (blN K R b) rfl (O.out.alloc _) (b : Int) wr rfl _ rfl 1 rfl (by omega) (le_allocW B.out.size) ?_; rintro v6 w6 hap; have O6 := Lib.hid hap.1; have B6 := Lib.hid (hap.below B.out B.out.size O.out); obtain ⟨_, _, g6, c6, rfl, _, _⟩ := hap; clear O B))
            go_roundw
            case rel => exact ⟨b + 1, by omega, by omega, by go_num, by rw [HS.out]; exact O6, B6⟩
            case measure => simp [intOf] <;> omega
          · have HS := Lib.hid (blN_no (R := R) hbit)
            rw [show (K / 2 ^ b % 2 == 1) = false from beq_eq_false_iff_ne.2 hbit]
            clear hbit
            go_wp2_with fail
            go_roundw
            case rel => exact ⟨b + 1, by omega, by omega, by go_num, by rw [HS.out]; exact O, B⟩
            case measure => simp [intOf] <;> omega
        · obtain rfl : b = 12 := by omega
          go_wp2_with fail
          go_ret2
          exact ⟨_, rfl, O.out, B.out⟩
  · have hz := real_bad h
    rw [hz.1, hz.2]
    clear hz
    go_enter Tryz.func114, Tryz.ntmps114
    go_wp2_with fail
    refine (isRound_any _ _).mono ?_
    rintro e w1 ⟨rfl, rfl⟩
    cases h1 : rndB r
    · go_wp2_with fail
      go_ret2
      exact ⟨_, rfl, Own.nil, Below.refl _ _⟩
    · have h2 : cdB k = false := Bool.eq_false_iff.2 (fun g => h ⟨h1, g⟩)
      clear h
      go_wp2_with fail
      refine (isCode_any _ _).mono ?_
      rintro e w1 ⟨rfl, rfl⟩
      rw [h2]
      go_wp2_with fail
      go_ret2
      exact ⟨_, rfl, Own.nil, Below.refl _ _⟩
end Go.Proofs.YtimkmieohkefiaaGreat

namespace Go.Proofs.YtimkmieohkefiaaGreat
open Go.RowKit

end Go.Proofs.YtimkmieohkefiaaGreat

namespace Go.Proofs.YtimkmieohkefiaaGreat

/-- The bit b of K is set. -/
def bitN (K b : Nat) : Bool := K / 2 ^ b % 2 == 1
/-- The least set bit from b on, among n of them; behind them if there is none. -/
def dstF (K : Nat) : Nat → Nat → Nat
  | 0, b => b
  | n + 1, b => if bitN K b = true then b else dstF K n (b + 1)
def dst (S K t : Nat) : Nat := dstF K (S - t) t
theorem dstF_ge (K : Nat) : ∀ n b, b ≤ dstF K n b ∧ dstF K n b ≤ b + n := by
  intro n
  induction n with
  | zero => intro b; exact ⟨Nat.le_refl _, Nat.le_refl _⟩
  | succ n ih =>
    intro b
    unfold dstF
    split
    · omega
    · have := ih (b + 1); omega
theorem dst_bd {S K t : Nat} (h : t ≤ S) : t ≤ dst S K t ∧ dst S K t ≤ S := by
  have := dstF_ge K (S - t) t
  unfold dst; omega
theorem dst_end (S K : Nat) : dst S K S = S := by unfold dst; rw [Nat.sub_self]; rfl
theorem dst_yes {S K t : Nat} (h : t < S) (hb : bitN K t = true) : dst S K t = t := by
  unfold dst
  rw [show S - t = (S - t - 1) + 1 by omega]
  unfold dstF; rw [if_pos hb]
theorem dst_no {S K t : Nat} (h : t < S) (hb : bitN K t = false) : dst S K t = dst S K (t + 1) := by
  unfold dst
  rw [show S - t = (S - (t + 1)) + 1 by omega]
  rw [dstF, if_neg (by rw [hb]; exact Bool.false_ne_true)]
theorem dst_skip {S K t : Nat} (h : t < S) (hb : dst S K t ≠ t) : bitN K t = false ∧ dst S K t = dst S K (t + 1) := by
  cases g : bitN K t with
  | true => exact absurd (dst_yes h g) hb
  | false => exact ⟨rfl, dst_no h g⟩
theorem dst_hit {S K t : Nat} (h : t < S) (hb : dst S K t = t) : bitN K t = true := by
  cases g : bitN K t with
  | true => rfl
  | false =>
    rw [dst_no h g] at hb
    have := (dst_bd (S := S) (K := K) (t := t + 1) (by omega)).1
    omega
/-- It is set there, and nowhere before. -/
theorem dst_spec {S K t : Nat} (h : t ≤ S) : (dst S K t < S → bitN K (dst S K t) = true) ∧ ∀ b, t ≤ b → b < dst S K t → bitN K b = false := by
  have key : ∀ n t, S - t = n → t ≤ S → (dst S K t < S → bitN K (dst S K t) = true) ∧ ∀ b, t ≤ b → b < dst S K t → bitN K b = false := by
    intro n
    induction n with
    | zero =>
      intro t hn ht
      obtain rfl : t = S := by omega
      rw [dst_end]
      exact ⟨fun h => absurd h (Nat.lt_irrefl _), fun b h1 h2 => by omega⟩
    | succ n ih =>
      intro t hn ht
      by_cases g : bitN K t = true
      · rw [dst_yes (by omega) g]
        exact ⟨fun _ => g, fun b h1 h2 => by omega⟩
      · rw [Bool.not_eq_true] at g
        rw [dst_no (by omega) g]
        obtain ⟨h1, h2⟩ := ih (t + 1) (by omega) (by omega)
        refine ⟨h1, fun b h3 h4 => ?_⟩
        rcases Nat.eq_or_lt_of_le h3 with e | e
        · subst e; exact g
        · exact h2 b e h4
  exact key _ t rfl h
theorem dst_uniq {S K t d : Nat} (h : t ≤ S) (h1 : t ≤ d) (h2 : d ≤ S) (h3 : d < S → bitN K d = true) (h4 : ∀ b, t ≤ b → b < d → bitN K b = false) : dst S K t = d := by
  obtain ⟨g1, g2⟩ := dst_spec (K := K) h
  obtain ⟨g3, g4⟩ := dst_bd (K := K) h
  rcases Nat.lt_trichotomy (dst S K t) d with g | g | g
  · have := h4 _ g3 g
    rw [g1 (by omega)] at this; cases this
  · exact g
  · have := g2 d h1 g
    rw [h3 (by omega)] at this; cases this
/-- Bits and remainders. -/
theorem mod_succ (K b : Nat) : K % 2 ^ (b + 1) = K % 2 ^ b + 2 ^ b * (K / 2 ^ b % 2) := Nat.mod_pow_succ
theorem mod_off {K b : Nat} (h : bitN K b = false) : K % 2 ^ (b + 1) = K % 2 ^ b := by
  have h1 : ¬ K / 2 ^ b % 2 = 1 := fun g => by unfold bitN at h; rw [g] at h; cases h
  have h2 : K / 2 ^ b % 2 = 0 := by omega
  rw [mod_succ, h2, Nat.mul_zero, Nat.add_zero]
theorem mod_on {K b : Nat} (h : bitN K b = true) : K % 2 ^ (b + 1) = K % 2 ^ b + 2 ^ b := by
  have h1 : K / 2 ^ b % 2 = 1 := by unfold bitN at h; exact beq_iff_eq.1 h
  rw [mod_succ, h1, Nat.mul_one]

section
variable (S L T : Nat) (cd rd tn : Nat → Nat)
/-- The items of a round. -/
def comeL (t : Nat) : List Nat := (List.range L).filter fun x => rd x == t
def putS (t : Nat) (st : List (List Nat)) (x : Nat) : List (List Nat) := if dst S (cd x) t < S then st.set (dst S (cd x) t) (st.getD (dst S (cd x) t) [] ++ [x]) else st
def putT (t : Nat) (tr : List (List Nat)) (x : Nat) : List (List Nat) := if dst S (cd x) t < S then tr else tr.set (tn x) (tr.getD (tn x) [] ++ [x])
/-- What is pushed at a time. -/
def oldL (st : List (List Nat)) (t : Nat) : List Nat := if t = 0 then [] else st.getD (t - 1) []
def qAt (st : List (List Nat)) (t : Nat) : List Nat := oldL st t ++ comeL L rd t
def cutS (st : List (List Nat)) (t : Nat) : List (List Nat) := if t = 0 then st else st.set (t - 1) []
/-- The sorting tracks behind n pushes. -/
def mS : Nat → List (List Nat)
  | 0 => List.replicate S []
  | t + 1 => (qAt L rd (mS t) t).foldl (putS S cd t) (cutS (mS t) t)
/-- The tracks of the trains. -/
def mT : Nat → List (List Nat)
  | 0 => List.replicate T []
  | t + 1 => (qAt L rd (mS S L cd rd t) t).foldl (putT S cd tn t) (mT t)
/-- How many items were pushed, and at how many times. -/
def mM : Nat → Nat
  | 0 => 0
  | t + 1 => mM t + (qAt L rd (mS S L cd rd t) t).length
def mP : Nat → Nat
  | 0 => 0
  | t + 1 => mP t + if (qAt L rd (mS S L cd rd t) t).length = 0 then 0 else 1
end

theorem comeL_mem {L : Nat} {rd : Nat → Nat} {t x : Nat} : x ∈ comeL L rd t ↔ x < L ∧ rd x = t := by
  unfold comeL; rw [List.mem_filter, List.mem_range, beq_iff_eq]
theorem getD_setL {l : List (List Nat)} {k : Nat} (h : k < l.length) (p : List Nat) (j : Nat) : (l.set k p).getD j [] = if k = j then p else l.getD j [] := by
  rw [List.getD_eq_getElem?_getD, List.getElem?_set]
  by_cases e : k = j
  · rw [if_pos e, if_pos h, if_pos e]; rfl
  · rw [if_neg e, if_neg e, List.getD_eq_getElem?_getD]
theorem getD_repL (n j : Nat) : (List.replicate n ([] : List Nat)).getD j [] = [] := by
  rw [List.getD_eq_getElem?_getD, List.getElem?_replicate]; split <;> rfl
theorem putS_len (S : Nat) (cd : Nat → Nat) (t : Nat) (st : List (List Nat)) (x : Nat) : (putS S cd t st x).length = st.length := by
  unfold putS; split
  · rw [List.length_set]
  · rfl
theorem putT_len (S : Nat) (cd tn : Nat → Nat) (t : Nat) (tr : List (List Nat)) (x : Nat) : (putT S cd tn t tr x).length = tr.length := by
  unfold putT; split
  · rfl
  · rw [List.length_set]
theorem foldS_len (S : Nat) (cd : Nat → Nat) (t : Nat) (q : List Nat) : ∀ st, (q.foldl (putS S cd t) st).length = st.length := by
  induction q with
  | nil => intro st; rfl
  | cons x q ih => intro st; rw [List.foldl_cons, ih, putS_len]
theorem foldT_len (S : Nat) (cd tn : Nat → Nat) (t : Nat) (q : List Nat) : ∀ tr, (q.foldl (putT S cd tn t) tr).length = tr.length := by
  induction q with
  | nil => intro tr; rfl
  | cons x q ih => intro tr; rw [List.foldl_cons, ih, putT_len]
theorem foldS_at {S : Nat} {cd : Nat → Nat} {t b : Nat} (hb : b < S) (q : List Nat) : ∀ st, st.length = S → (q.foldl (putS S cd t) st).getD b [] = st.getD b [] ++ q.filter fun x => dst S (cd x) t == b := by
  induction q with
  | nil => intro st _; simp
  | cons x q ih =>
    intro st hs
    rw [List.foldl_cons, ih _ (by rw [putS_len]; exact hs)]
    unfold putS
    by_cases h : dst S (cd x) t < S
    · rw [if_pos h, getD_setL (by omega)]
      by_cases e : dst S (cd x) t = b
      · rw [if_pos e, e, List.filter_cons_of_pos (by simp [e]), List.append_assoc]; rfl
      · rw [if_neg e, List.filter_cons_of_neg (by simp [e])]
    · rw [if_neg h, List.filter_cons_of_neg (by simp; omega)]
theorem foldT_at {S T : Nat} {cd tn : Nat → Nat} {t b : Nat} (hb : b < T) (q : List Nat) : ∀ tr, tr.length = T → (∀ x ∈ q, tn x < T) → (q.foldl (putT S cd tn t) tr).getD b [] = tr.getD b [] ++ q.filter fun x => decide (S ≤ dst S (cd x) t) && (tn x == b) := by
  induction q with
  | nil => intro tr _ _; simp
  | cons x q ih =>
    intro tr hs hq
    rw [List.foldl_cons, ih _ (by rw [putT_len]; exact hs) (fun y hy => hq y (List.mem_cons_of_mem _ hy))]
    unfold putT
    by_cases h : dst S (cd x) t < S
    · rw [if_pos h, List.filter_cons_of_neg (by simp; omega)]
    · have := hq x (List.mem_cons_self ..)
      rw [if_neg h, getD_setL (by omega)]
      by_cases e : tn x = b
      · rw [if_pos e, e, List.filter_cons_of_pos (by simp [e]; omega), List.append_assoc]; rfl
      · rw [if_neg e, List.filter_cons_of_neg (by simp [e])]
theorem cutS_len (st : List (List Nat)) (t : Nat) : (cutS st t).length = st.length := by
  unfold cutS; split
  · rfl
  · rw [List.length_set]
theorem cutS_at {st : List (List Nat)} {t b : Nat} (ht : t ≤ st.length) : (cutS st t).getD b [] = if b + 1 = t then [] else st.getD b [] := by
  unfold cutS
  by_cases h : t = 0
  · rw [if_pos h, if_neg (by omega)]
  · rw [if_neg h, getD_setL (by omega)]
    by_cases e : t - 1 = b
    · rw [if_pos e, if_pos (by omega)]
    · rw [if_neg e, if_neg (by omega)]

/-- What a plan that fits keeps. -/
structure FitN (S L T : Nat) (cd rd tn : Nat → Nat) : Prop where
  cdl : ∀ x, x < L → cd x < 2 ^ S
  mis : ∀ x, x < L → cd x % 2 ^ rd x = 2 ^ rd x - 1
  asc : ∀ x y, x ≤ y → y < L → rd x ≤ rd y
  trn : ∀ x, x < L → tn x < T
section
variable {S L T : Nat} {cd rd tn : Nat → Nat}
theorem mS_len (t : Nat) : (mS S L cd rd t).length = S := by
  induction t with
  | zero => simp [mS]
  | succ t ih => rw [mS, foldS_len, cutS_len, ih]
theorem mT_len (t : Nat) : (mT S L T cd rd tn t).length = T := by
  induction t with
  | zero => simp [mT]
  | succ t ih => rw [mT, foldT_len, ih]
/-- The order on a track behind n pushes: by the bits that are gone, then by the index. -/
def ltN (cd : Nat → Nat) (t x y : Nat) : Prop := cd x % 2 ^ t < cd y % 2 ^ t ∨ (cd x % 2 ^ t = cd y % 2 ^ t ∧ x < y)
theorem oldL_succ (st : List (List Nat)) (t : Nat) : oldL st (t + 1) = st.getD t [] := rfl
theorem lt_off {t x y : Nat} (hx : bitN (cd x) t = false) (hy : bitN (cd y) t = false) (h : ltN cd t x y) : ltN cd (t + 1) x y := by
  unfold ltN; rw [mod_off hx, mod_off hy]; exact h
theorem lt_on {t x y : Nat} (hx : bitN (cd x) t = true) (hy : bitN (cd y) t = true) (h : ltN cd t x y) : ltN cd (t + 1) x y := by
  unfold ltN at *; rw [mod_on hx, mod_on hy]; omega
theorem lt_offon {t x y : Nat} (hx : bitN (cd x) t = false) (hy : bitN (cd y) t = true) : ltN cd (t + 1) x y := by
  unfold ltN
  rw [mod_off hx, mod_on hy]
  have := Nat.mod_lt (cd x) (Nat.two_pow_pos t)
  omega
/-- An item of the round comes behind those of earlier rounds. -/
theorem lt_come (h : FitN S L T cd rd tn) {t x y : Nat} (hx : x < L) (hxr : rd x < t) (hy : y < L) (hyr : rd y = t) : ltN cd t x y := by
  unfold ltN
  have h1 := h.mis y hy
  rw [hyr] at h1
  have h2 := Nat.mod_lt (cd x) (Nat.two_pow_pos t)
  have h3 : x < y := by
    rcases Nat.lt_or_ge x y with g | g
    · exact g
    · have := h.asc y x g hx; omega
  rw [h1]; omega
theorem come_asc (h : FitN S L T cd rd tn) (t : Nat) : (comeL L rd t).Pairwise (ltN cd t) := by
  unfold comeL
  refine (List.Pairwise.filter _ List.pairwise_lt_range).imp_of_mem fun {x y} hx hy hxy => ?_
  have h1 := comeL_mem.1 hx
  have h2 := comeL_mem.1 hy
  have e1 := h.mis x h1.1
  have e2 := h.mis y h2.1
  rw [h1.2] at e1
  rw [h2.2] at e2
  exact Or.inr ⟨by rw [e1, e2], hxy⟩
/-- A list of items of earlier rounds that is in order, and behind it items of the round. -/
theorem app_come (h : FitN S L T cd rd tn) {t : Nat} {p : List Nat} (hp : p.Pairwise (ltN cd t)) (hm : ∀ x ∈ p, x < L ∧ rd x < t) : (p ++ comeL L rd t).Pairwise (ltN cd t) :=
  List.pairwise_append.2 ⟨hp, come_asc h t, fun x hx y hy => lt_come h (hm x hx).1 (hm x hx).2 (comeL_mem.1 hy).1 (comeL_mem.1 hy).2⟩
/-- What a track has behind n pushes. -/
structure OnS (S L : Nat) (cd rd : Nat → Nat) (n b : Nat) (p : List Nat) : Prop where
  mem : ∀ x, x ∈ p ↔ x < L ∧ rd x < n ∧ dst S (cd x) (n - 1) = b
  asc : p.Pairwise (ltN cd (n - 1))
structure OnT (S L : Nat) (cd rd tn : Nat → Nat) (n b : Nat) (p : List Nat) : Prop where
  mem : ∀ x, x ∈ p ↔ x < L ∧ rd x < n ∧ dst S (cd x) (n - 1) = S ∧ tn x = b
  asc : p.Pairwise (ltN cd (n - 1))
/-- What is pushed is in order, too. -/
theorem q_asc (h : FitN S L T cd rd tn) {n : Nat} (hn : n ≤ S) (ih : ∀ b, b < S → OnS S L cd rd n b ((mS S L cd rd n).getD b [])) :
    (qAt L rd (mS S L cd rd n) n).Pairwise (ltN cd n) ∧ (∀ x, x ∈ qAt L rd (mS S L cd rd n) n ↔ x < L ∧ (rd x = n ∨ (rd x < n ∧ dst S (cd x) (n - 1) = n - 1))) := by
  unfold qAt
  cases n with
  | zero =>
    refine ⟨?_, fun x => ?_⟩
    · exact come_asc h 0
    · show x ∈ comeL L rd 0 ↔ _
      rw [comeL_mem]; omega
  | succ t =>
    have ho := ih t (by omega)
    rw [oldL_succ]
    refine ⟨app_come h ?_ (fun x hx => by have := (ho.mem x).1 hx; exact ⟨this.1, this.2.1⟩), fun x => ?_⟩
    · refine ho.asc.imp_of_mem fun {x y} hx hy hxy => ?_
      have h1 := ((ho.mem x).1 hx).2.2
      have h2 := ((ho.mem y).1 hy).2.2
      rw [Nat.add_sub_cancel] at h1 h2 hxy
      exact lt_on (dst_hit (by omega) h1) (dst_hit (by omega) h2) hxy
    · rw [List.mem_append, ho.mem, comeL_mem]
      constructor
      · rintro (⟨a, b, c⟩ | ⟨a, b⟩)
        · exact ⟨a, Or.inr ⟨b, c⟩⟩
        · exact ⟨a, Or.inl b⟩
      · rintro ⟨a, b | ⟨b, c⟩⟩
        · exact Or.inr ⟨a, b⟩
        · exact Or.inl ⟨a, b, c⟩
theorem onS_all (h : FitN S L T cd rd tn) : ∀ n, n ≤ S + 1 → ∀ b, b < S → OnS S L cd rd n b ((mS S L cd rd n).getD b []) := by
  intro n
  induction n with
  | zero =>
    intro _ b _
    rw [mS, getD_repL]
    exact ⟨fun x => by simp, List.Pairwise.nil⟩
  | succ n ih =>
    intro hn b hb
    have ih := ih (by omega)
    obtain ⟨qa, qm⟩ := q_asc h (n := n) (by omega) ih
    have hl := mS_len (S := S) (L := L) (cd := cd) (rd := rd) n
    have e : (mS S L cd rd (n + 1)).getD b [] = (cutS (mS S L cd rd n) n).getD b [] ++ (qAt L rd (mS S L cd rd n) n).filter fun x => dst S (cd x) n == b := by
      rw [mS, foldS_at hb _ _ (by rw [cutS_len]; exact hl)]
    rw [e, cutS_at (by omega)]
    have hm2 : ∀ x, x ∈ (qAt L rd (mS S L cd rd n) n).filter (fun x => dst S (cd x) n == b) ↔ (x < L ∧ (rd x = n ∨ (rd x < n ∧ dst S (cd x) (n - 1) = n - 1))) ∧ dst S (cd x) n = b := fun x => by
      rw [List.mem_filter, qm, beq_iff_eq]
    rcases Nat.eq_zero_or_pos n with h0 | h0
    · subst h0
      have he : (mS S L cd rd 0).getD b [] = [] := by rw [mS, getD_repL]
      rw [if_neg (by omega), he, List.nil_append]
      refine ⟨fun x => ?_, by rw [Nat.add_sub_cancel]; exact qa.filter _⟩
      rw [hm2, Nat.add_sub_cancel]
      constructor
      · rintro ⟨⟨a, c⟩, d⟩; exact ⟨a, by omega, d⟩
      · rintro ⟨a, c, d⟩; exact ⟨⟨a, Or.inl (by omega)⟩, d⟩
    · obtain ⟨t, rfl⟩ : ∃ t, n = t + 1 := ⟨n - 1, by omega⟩
      by_cases g : b = t
      · subst g
        rw [if_pos rfl, List.nil_append]
        refine ⟨fun x => ?_, by rw [Nat.add_sub_cancel]; exact qa.filter _⟩
        rw [hm2]
        simp only [Nat.add_sub_cancel]
        have := (dst_bd (S := S) (K := cd x) (t := b + 1) (by omega)).1
        constructor
        · rintro ⟨_, d⟩; omega
        · rintro ⟨_, _, d⟩; omega
      · rw [if_neg (by omega)]
        have ho := ih b hb
        have hoff : ∀ x ∈ (mS S L cd rd (t + 1)).getD b [], x < L ∧ rd x < t + 1 ∧ bitN (cd x) t = false ∧ dst S (cd x) (t + 1) = b := fun x hx => by
          obtain ⟨a, c, d⟩ := (ho.mem x).1 hx
          rw [Nat.add_sub_cancel] at d
          obtain ⟨e1, e2⟩ := dst_skip (S := S) (K := cd x) (t := t) (by omega) (by omega)
          exact ⟨a, c, e1, by omega⟩
        refine ⟨fun x => ?_, ?_⟩
        · rw [List.mem_append, hm2, ho.mem, Nat.add_sub_cancel, Nat.add_sub_cancel]
          constructor
          · rintro (⟨a, c, d⟩ | ⟨⟨a, c⟩, d⟩)
            · obtain ⟨e1, e2⟩ := dst_skip (S := S) (K := cd x) (t := t) (by omega) (by omega)
              exact ⟨a, by omega, by omega⟩
            · exact ⟨a, by omega, d⟩
          · rintro ⟨a, c, d⟩
            by_cases e : rd x = t + 1
            · exact Or.inr ⟨⟨a, Or.inl e⟩, d⟩
            · by_cases f : dst S (cd x) t = t
              · exact Or.inr ⟨⟨a, Or.inr ⟨by omega, f⟩⟩, d⟩
              · obtain ⟨e1, e2⟩ := dst_skip (S := S) (K := cd x) (t := t) (by omega) f
                exact Or.inl ⟨a, by omega, by omega⟩
        · rw [Nat.add_sub_cancel]
          refine List.pairwise_append.2 ⟨?_, qa.filter _, fun x hx y hy => ?_⟩
          · refine ho.asc.imp_of_mem fun {x y} hx hy hxy => ?_
            rw [Nat.add_sub_cancel] at hxy
            exact lt_off (hoff x hx).2.2.1 (hoff y hy).2.2.1 hxy
          · obtain ⟨a, c, d, _⟩ := hoff x hx
            obtain ⟨⟨a', c'⟩, d'⟩ := (hm2 y).1 hy
            rcases c' with c' | ⟨c', c''⟩
            · exact lt_come h a (by omega) a' c'
            · rw [Nat.add_sub_cancel] at c''
              exact lt_offon d (dst_hit (by omega) c'')
theorem onT_all (h : FitN S L T cd rd tn) : ∀ n, n ≤ S + 1 → ∀ b, b < T → OnT S L cd rd tn n b ((mT S L T cd rd tn n).getD b []) := by
  intro n
  induction n with
  | zero =>
    intro _ b _
    rw [mT, getD_repL]
    exact ⟨fun x => by simp, List.Pairwise.nil⟩
  | succ n ih =>
    intro hn b hb
    have ho := ih (by omega) b hb
    obtain ⟨qa, qm⟩ := q_asc h (n := n) (by omega) (onS_all h n (by omega))
    have e : (mT S L T cd rd tn (n + 1)).getD b [] = (mT S L T cd rd tn n).getD b [] ++ (qAt L rd (mS S L cd rd n) n).filter fun x => decide (S ≤ dst S (cd x) n) && (tn x == b) := by
      rw [mT, foldT_at hb _ _ (mT_len n) (fun x hx => h.trn x ((qm x).1 hx).1)]
    rw [e]
    have hd : ∀ x, dst S (cd x) n ≤ S := fun x => (dst_bd (S := S) (K := cd x) (t := n) (by omega)).2
    have hm2 : ∀ x, x ∈ (qAt L rd (mS S L cd rd n) n).filter (fun x => decide (S ≤ dst S (cd x) n) && (tn x == b)) ↔ (x < L ∧ (rd x = n ∨ (rd x < n ∧ dst S (cd x) (n - 1) = n - 1))) ∧ dst S (cd x) n = S ∧ tn x = b := fun x => by
      rw [List.mem_filter, qm, Bool.and_eq_true, decide_eq_true_eq, beq_iff_eq]
      have := hd x
      constructor
      · rintro ⟨a, c, d⟩; exact ⟨a, by omega, d⟩
      · rintro ⟨a, c, d⟩; exact ⟨a, by omega, d⟩
    rcases Nat.eq_zero_or_pos n with h0 | h0
    · subst h0
      have he : (mT S L T cd rd tn 0).getD b [] = [] := by rw [mT, getD_repL]
      rw [he, List.nil_append]
      refine ⟨fun x => ?_, by rw [Nat.add_sub_cancel]; exact qa.filter _⟩
      rw [hm2, Nat.add_sub_cancel]
      constructor
      · rintro ⟨⟨a, c⟩, d⟩; exact ⟨a, by omega, d⟩
      · rintro ⟨a, c, d⟩; exact ⟨⟨a, Or.inl (by omega)⟩, d⟩
    · obtain ⟨t, rfl⟩ : ∃ t, n = t + 1 := ⟨n - 1, by omega⟩
      have hoff : ∀ x ∈ (mT S L T cd rd tn (t + 1)).getD b [], x < L ∧ rd x < t + 1 ∧ bitN (cd x) t = false := fun x hx => by
        obtain ⟨a, c, d, _⟩ := (ho.mem x).1 hx
        rw [Nat.add_sub_cancel] at d
        exact ⟨a, c, (dst_skip (S := S) (K := cd x) (t := t) (by omega) (by omega)).1⟩
      refine ⟨fun x => ?_, ?_⟩
      · rw [List.mem_append, hm2, ho.mem, Nat.add_sub_cancel, Nat.add_sub_cancel]
        constructor
        · rintro (⟨a, c, d, f⟩ | ⟨⟨a, c⟩, d⟩)
          · have := (dst_skip (S := S) (K := cd x) (t := t) (by omega) (by omega)).2
            exact ⟨a, by omega, by omega, f⟩
          · exact ⟨a, by omega, d⟩
        · rintro ⟨a, c, d⟩
          by_cases e : rd x = t + 1
          · exact Or.inr ⟨⟨a, Or.inl e⟩, d⟩
          · by_cases f : dst S (cd x) t = t
            · exact Or.inr ⟨⟨a, Or.inr ⟨by omega, f⟩⟩, d⟩
            · have := (dst_skip (S := S) (K := cd x) (t := t) (by omega) f).2
              exact Or.inl ⟨a, by omega, by omega, d.2⟩
      · rw [Nat.add_sub_cancel]
        refine List.pairwise_append.2 ⟨?_, qa.filter _, fun x hx y hy => ?_⟩
        · refine ho.asc.imp_of_mem fun {x y} hx hy hxy => ?_
          rw [Nat.add_sub_cancel] at hxy
          exact lt_off (hoff x hx).2.2 (hoff y hy).2.2 hxy
        · obtain ⟨a, c, d⟩ := hoff x hx
          obtain ⟨⟨a', c'⟩, d'⟩ := (hm2 y).1 hy
          rcases c' with c' | ⟨c', c''⟩
          · exact lt_come h a (by omega) a' c'
          · rw [Nat.add_sub_cancel] at c''
            exact lt_offon d (dst_hit (by omega) c'')
theorem ltN_nodup {t : Nat} {p : List Nat} (h : p.Pairwise (ltN cd t)) : p.Nodup := h.imp fun {x y} hxy e => by
  subst e; unfold ltN at hxy; omega
end
end Go.Proofs.YtimkmieohkefiaaGreat

namespace Go.Proofs.YtimkmieohkefiaaGreat

section
variable {S L T : Nat} {cd rd tn : Nat → Nat}
/-- Sums over the items. -/
def sumN (f : Nat → Nat) : Nat → Nat
  | 0 => 0
  | k + 1 => sumN f k + f k
theorem mP_le : ∀ n, mP S L cd rd n ≤ n := by
  intro n
  induction n with
  | zero => exact Nat.le_refl _
  | succ n ih => unfold mP; split <;> omega
end
end Go.Proofs.YtimkmieohkefiaaGreat

namespace Go.Proofs.YtimkmieohkefiaaGreat
open Go.RowKit Go.Lib

/-- The code of item x is below 2^Steps and of the form. -/
def okC (l : List It) (wt st : Int) (v : List Int) (x : Nat) : Bool := decide (v.getD x 0 < 2 ^ st.toNat) && isZ (v.getD x 0) (rnd l x) wt
def fitB (l : List It) (wt st : Int) (v : List Int) : Bool := (decide (0 ≤ st) && decide (st ≤ 12)) && ((v.length == l.length) && (List.range l.length).all fun x => okC l wt st v x)
theorem fitB_iff {l : List It} {wt st : Int} {v : List Int} : fitB l wt st v = true ↔ (0 ≤ st ∧ st ≤ 12) ∧ v.length = l.length ∧ ∀ x, x < l.length → okC l wt st v x = true := by
  unfold fitB
  simp only [Bool.and_eq_true, decide_eq_true_eq, beq_iff_eq, List.all_eq_true, List.mem_range]
theorem fitB_st {l : List It} {wt st : Int} {v : List Int} (h : ¬ (0 ≤ st ∧ st ≤ 12)) : fitB l wt st v = false := Bool.eq_false_iff.2 fun g => h (fitB_iff.1 g).1
theorem fitB_len {l : List It} {wt st : Int} {v : List Int} (h : v.length ≠ l.length) : fitB l wt st v = false := Bool.eq_false_iff.2 fun g => h (fitB_iff.1 g).2.1
theorem fitB_at {l : List It} {wt st : Int} {v : List Int} {x : Nat} (hx : x < l.length) (h : okC l wt st v x = false) : fitB l wt st v = false := Bool.eq_false_iff.2 fun g => by
  have := (fitB_iff.1 g).2.2 x hx
  rw [h] at this; cases this
/-- What Valid answers. -/
def val14 (l : List It) (wt st : Int) (v : List Int) : Int := if validR l wt = 0 then (if fitB l wt st v = true then 0 else 1) else validR l wt
/-- The box of a plan that has just been laid. -/
theorem pbox2 (w : World) (A : Option Addr) (L c : Nat) (wt st : Int) (pA : Option Addr) (n pc : Nat) :
    JBox ((w.alloc (.cells #[.slice A L c, .int .i64 wt] 37)).alloc (.cells #[.int .i64 st, .slice pA n pc] 39)) w.heap.size A L c wt ∧
    PBox ((w.alloc (.cells #[.slice A L c, .int .i64 wt] 37)).alloc (.cells #[.int .i64 st, .slice pA n pc] 39)) (w.heap.size + 1) st pA n pc ∧
    Below w.heap.size w ((w.alloc (.cells #[.slice A L c, .int .i64 wt] 37)).alloc (.cells #[.int .i64 st, .slice pA n pc] 39)) := by
  have J0 := JBox.new (w := w) (A := A) (n := L) (c := c) (wt := wt) w.heap.size rfl
  have s1 : (w.alloc (.cells #[.slice A L c, .int .i64 wt] 37)).heap.size = w.heap.size + 1 := by simp
  have b1 := (Below.refl _ (w.alloc (.cells #[.slice A L c, .int .i64 wt] 37))).alloc (Nat.le_refl _) (.cells #[.int .i64 st, .slice pA n pc] 39)
  have B0 := (Below.refl w.heap.size w).alloc (Nat.le_refl _) (.cells #[.slice A L c, .int .i64 wt] 37)
  exact ⟨J0.below b1 J0.lt, PBox.new _ s1.symm, B0.trans (b1.mono B0.size)⟩
set_option maxRecDepth 100000 in
set_option maxHeartbeats 1600000 in
theorem fits_any (l : List It) (A : Option Addr) (c L : Nat) (wt st : Int) (v : List Int) (pA : Option Addr) (n pc : Nat) (hL : L = l.length) (hn : n = v.length) (hv : validR l wt = 0) (w : World) (h : IRow w A l) (hp : Row .i64 w w.heap.size pA v) (hm : v.length ≤ maxLen) :
    Calls Tryz.prog 113 #[jv A L c wt, pv st pA n pc] w fun e w' => e = .returned (.bool (fitB l wt st v)) ∧ Below w.heap.size w w' := by
  have hl : L ≤ 96 := by rw [hL]; exact (valid_ok hv).1
  have hnl : n ≤ 9223372036854775807 := by rw [hn]; exact hm
  obtain ⟨HJ0, HP0, HB0⟩ := pbox2 w A L c wt st pA n pc
  have HJ := Lib.hid HJ0
  have HP := Lib.hid HP0
  have HB := Lib.hid HB0
  have H := Lib.hid (h.below HB0)
  have HR := Lib.hid (hp.below HB0)
  have HL := Lib.hid hL
  have HN := Lib.hid hn
  have HV := Lib.hid hv
  clear h hp HJ0 HP0 HB0 hL hn hv hm
  obtain ⟨b, hb⟩ : ∃ b, b = w.heap.size := ⟨_, rfl⟩
  go_enter Tryz.func113, Tryz.ntmps113
  go_upto_region 1 with fail
  rw [← hb] at HJ HP ⊢
  generalize (w.alloc (.cells #[.slice A L c, .int .i64 wt] 37)).alloc (.cells #[.int .i64 st, .slice pA n pc] 39) = w1 at *
  clear hb
  obtain ⟨j0, j1, jl⟩ := HJ.out
  obtain ⟨p0, p1, -, pl⟩ := HP.out
  by_cases h0 : st < 0
  · have HF := Lib.hid (fitB_st (l := l) (wt := wt) (v := v) (show ¬ (0 ≤ st ∧ st ≤ 12) by omega))
    go_wp2_with fail
    go_ret
    exact ⟨ret_bool HF.out.symm, HB.out⟩
  by_cases h12 : 12 < st
  · have HF := Lib.hid (fitB_st (l := l) (wt := wt) (v := v) (show ¬ (0 ≤ st ∧ st ≤ 12) by omega))
    go_wp2_with fail
    go_ret
    exact ⟨ret_bool HF.out.symm, HB.out⟩
  by_cases hnL : n = L
  · subst hnL
    obtain ⟨S, rfl⟩ := Int.eq_ofNat_of_zero_le (show 0 ≤ st by omega)
    have hS : S ≤ 12 := by omega
    have hkk : ((n : Int) != (n : Int)) = false := by simp
    clear h0 h12 hnl
    have h0' : ¬ (S : Int) < 0 := by omega
    have h12' : ¬ (12 : Int) < (S : Int) := by omega
    go_wp2_with fail
    clear hkk h0' h12'
    go_loopw [27] (fun iv wr => ∃ k : Nat, k ≤ n ∧ iv = .int .i64 (k : Int) ∧ Hid (∀ x, x < k → okC l wt (S : Int) v x = true) ∧ Hid (∃ q, wr = w1.drewN q)) (fun iv _ => n - (intOf iv).toNat)
    case atStart => exact ⟨0, by omega, rfl, Lib.hid (fun x hx => absurd hx (Nat.not_lt_zero _)), Lib.hid ⟨0, rfl⟩⟩
    case round =>
      obtain ⟨k, hk, rfl, F, HW⟩ := hrel
      have BW := Lib.hid (show Below w1.heap.size w1 wr by obtain ⟨q, e⟩ := HW.out; rw [e]; exact ⟨rfl, rfl, rfl, Nat.le_refl _, fun _ _ => rfl⟩)
      by_cases hlt : k < n
      · have hkl : k < l.length := by rw [← HL.out]; exact hlt
        obtain ⟨pad, rfl, plt, cp⟩ := (HR.out.below BW.out) k (by rw [← HN.out]; exact hlt)
        obtain ⟨aA, rfl, CE⟩ := (H.out.below BW.out).at_ k hkl
        obtain ⟨-, -, r2, -⟩ := CE.spelt
        replace r2 : wr.cell? ⟨(aA.add (k * 4)).block, (aA.add (k * 4)).off + 2, none⟩ = some (.int .i64 (rnd l k)) := r2
        have j0 := (BW.out.cell (p := ⟨b, 0, none⟩) HJ.out.lt).trans HJ.out.c0
        have j1 := (BW.out.cell (p := ⟨b, 1, none⟩) HJ.out.lt).trans HJ.out.c1
        have p0 := (BW.out.cell (p := ⟨b + 1, 0, none⟩) HP.out.lt).trans HP.out.c0
        have p1 := (BW.out.cell (p := ⟨b + 1, 1, none⟩) HP.out.lt).trans HP.out.c1
        have hki : (k : Int) < (n : Int) := by omega
        have HRI := Lib.hid (fun W => is_any (v.getD k 0) (rnd l k) wt W)
        have HOK := Lib.hid (show okC l wt (S : Int) v k = (decide (v.getD k 0 < 2 ^ S) && isZ (v.getD k 0) (rnd l k) wt) from rfl)
        have hpw := powW hS
        have hp4 := pow_le4096 hS
        have hpe : ((2 : Int) ^ S) = ((2 ^ S : Nat) : Int) := by simp
        rw [hpe] at HOK
        clear hpe CE
        generalize v.getD k 0 = vk at *
        generalize rnd l k = rr at *
        obtain ⟨P, hP⟩ : ∃ P, P = 2 ^ S := ⟨_, rfl⟩
        rw [← hP] at hpw hp4 HOK
        clear hP
        by_cases hge : (P : Int) ≤ vk
        · have HF := Lib.hid (fitB_at (l := l) (wt := wt) (st := (S : Int)) (v := v) hkl (by rw [HOK.out, decide_eq_false (by omega)]; rfl))
          have hgd : decide ((P : Int) ≤ vk) = true := decide_eq_true hge
          go_wp2_with fail
          go_quiet (fail)
          clear j0 j1 p0 p1 cp r2 hpw
          go_wp2_with fail
          go_ret
          exact ⟨ret_bool HF.out.symm, by have := HB.out.trans (BW.out.mono HB.out.size); exact this.trans ⟨rfl, rfl, rfl, Nat.le_refl _, fun _ _ => rfl⟩⟩
        · have hgd : decide ((P : Int) ≤ vk) = false := decide_eq_false hge
          cases hz : isZ vk rr wt with
          | false =>
            rw [hz] at HRI HOK
            have HF := Lib.hid (fitB_at (l := l) (wt := wt) (st := (S : Int)) (v := v) hkl (by rw [HOK.out]; simp))
            go_wp2_with fail
            go_quiet ((go_at_call 143; exact Calls.quiet_of_same ((HRI.out _).mono fun _ _ h => ⟨h.1, h.2.symm⟩)))
            clear j0 j1 p0 p1 cp r2 hpw
            go_wp2_with fail
            go_ret
            exact ⟨ret_bool HF.out.symm, by have := HB.out.trans (BW.out.mono HB.out.size); exact this.trans ⟨rfl, rfl, rfl, Nat.le_refl _, fun _ _ => rfl⟩⟩
          | true =>
            rw [hz] at HRI HOK
            have HF2 := Lib.hid (show ∀ x, x < k + 1 → okC l wt (S : Int) v x = true from fun x hx => by
              rcases Nat.lt_or_ge x k with g | g
              · exact F.out x g
              · obtain rfl : x = k := by omega
                rw [HOK.out, decide_eq_true (by omega)]; rfl)
            go_wp2_with fail
            go_quiet ((go_at_call 143; exact Calls.quiet_of_same ((HRI.out _).mono fun _ _ h => ⟨h.1, h.2.symm⟩)))
            clear j0 j1 p0 p1 cp r2 hpw
            go_wp2_with fail
            go_roundw
            case rel => exact ⟨k + 1, by omega, by go_num, HF2, Lib.hid (by obtain ⟨q, e⟩ := HW.out; exact ⟨q + nq, by rw [e, World.drewN_drewN]⟩)⟩
            case measure => simp [intOf]; omega
      · obtain rfl : k = n := by omega
        have HF := Lib.hid (show fitB l wt (k : Int) v = fitB l wt (k : Int) v from rfl)
        have HT := Lib.hid (show fitB l wt (S : Int) v = true from fitB_iff.2 ⟨by omega, by rw [← HN.out, HL.out], fun x hx => F.out x (by rw [HL.out]; exact hx)⟩)
        go_wp2_with fail
        go_ret
        exact ⟨ret_bool HT.out.symm, HB.out.trans (BW.out.mono HB.out.size)⟩
  · have HF := Lib.hid (fitB_len (l := l) (wt := wt) (st := st) (v := v) (by rw [← HL.out, ← HN.out]; exact hnL))
    have hkk : ((n : Int) != (L : Int)) = true := by simp; omega
    go_wp2_with fail
    go_ret
    exact ⟨ret_bool HF.out.symm, HB.out⟩
end Go.Proofs.YtimkmieohkefiaaGreat

namespace Go.Proofs.YtimkmieohkefiaaGreat
open Go.RowKit Go.Lib

set_option maxHeartbeats 800000 in
theorem val14_any (l : List It) (A : Option Addr) (c L : Nat) (wt st : Int) (v : List Int) (pA : Option Addr) (n pc : Nat) (hL : L = l.length) (hn : n = v.length) (w : World) (h : IRow w A l) (hp : Row .i64 w w.heap.size pA v) (hm : v.length ≤ maxLen) :
    Calls Tryz.prog 65 #[jv A L c wt, pv st pA n pc] w fun e w' => e = .returned (.int .i64 (val14 l wt st v)) ∧ Below w.heap.size w w' := by
  obtain ⟨HJ0, HP0, HB0⟩ := pbox2 w A L c wt st pA n pc
  have HJ := Lib.hid HJ0
  have HP := Lib.hid HP0
  have HB := Lib.hid HB0
  have H := Lib.hid h
  have HR := Lib.hid hp
  have HM := Lib.hid hm
  have HV := Lib.hid (fun (W : World) (k : IRow W A l) => valid_any l A c wt W k)
  rw [← hL] at HV
  have HF := Lib.hid (fun hv (W : World) (k : IRow W A l) (q : Row .i64 W W.heap.size pA v) => fits_any l A c L wt st v pA n pc hL hn hv W k q hm)
  clear h hp HJ0 HP0 HB0 hm hL hn
  obtain ⟨b, hb⟩ : ∃ b, b = w.heap.size := ⟨_, rfl⟩
  go_enter Tryz.func65, Tryz.ntmps65
  go_upto_region 1 with fail
  rw [← hb] at HJ HP ⊢
  generalize (w.alloc (.cells #[.slice A L c, .int .i64 wt] 37)).alloc (.cells #[.int .i64 st, .slice pA n pc] 39) = w1 at *
  clear hb
  obtain ⟨j0, j1, jl⟩ := HJ.out
  obtain ⟨p0, p1, -, pl⟩ := HP.out
  go_wp2_with fail
  refine (HV.out w1 (H.out.below HB.out)).mono ?_
  rintro e w2 ⟨rfl, B2⟩
  have j0 := (B2.cell (p := ⟨b, 0, none⟩) HJ.out.lt).trans HJ.out.c0
  have j1 := (B2.cell (p := ⟨b, 1, none⟩) HJ.out.lt).trans HJ.out.c1
  have p0 := (B2.cell (p := ⟨b + 1, 0, none⟩) HP.out.lt).trans HP.out.c0
  have p1 := (B2.cell (p := ⟨b + 1, 1, none⟩) HP.out.lt).trans HP.out.c1
  have HB2 := Lib.hid (HB.out.trans (B2.mono HB.out.size))
  clear B2
  by_cases hv : validR l wt = 0
  · have HFF := Lib.hid (HF.out hv w2 (H.out.below HB2.out) (HR.out.below HB2.out))
    rw [hv]
    cases hf : fitB l wt st v with
    | true =>
      have HE := Lib.hid (show val14 l wt st v = 0 by unfold val14; rw [if_pos hv, if_pos hf])
      rw [hf] at HFF
      clear hv hf
      go_wp2_with fail
      refine HFF.out.mono ?_
      rintro e w3 ⟨rfl, B3⟩
      have HB3 := Lib.hid (HB2.out.trans (B3.mono HB2.out.size))
      clear B3 j0 j1 p0 p1 jl pl
      go_wp2_with fail
      go_ret
      exact ⟨ret_int HE.out.symm, HB3.out⟩
    | false =>
      have HE := Lib.hid (show val14 l wt st v = 1 by unfold val14; rw [if_pos hv, if_neg (by rw [hf]; exact Bool.false_ne_true)])
      rw [hf] at HFF
      clear hv hf
      go_wp2_with fail
      refine HFF.out.mono ?_
      rintro e w3 ⟨rfl, B3⟩
      have HB3 := Lib.hid (HB2.out.trans (B3.mono HB2.out.size))
      clear B3 j0 j1 p0 p1 jl pl
      go_wp2_with fail
      go_ret
      exact ⟨ret_int HE.out.symm, HB3.out⟩
  · have HE := Lib.hid (show val14 l wt st v = validR l wt by unfold val14; rw [if_neg hv])
    have hne : (validR l wt != 0) = true := bne_iff_ne.2 hv
    generalize validR l wt = er at *
    clear hv HF
    go_wp2_with fail
    go_ret
    exact ⟨ret_int HE.out.symm, HB2.out⟩

/-- The number of tracks of the trains of the first k items. -/
def tcI (l : List It) : Nat → Int
  | 0 => 0
  | k + 1 => max2 (tcI l k) (trn l k + 1)
theorem tcI_bd {l : List It} (h : ∀ p ∈ l, okI p) : ∀ k, k ≤ l.length → (0 ≤ tcI l k ∧ tcI l k ≤ 16) ∧ ∀ y, y < k → trn l y < tcI l k := by
  intro k
  induction k with
  | zero => intro _; exact ⟨⟨Int.le_refl _, by show (0 : Int) ≤ 16; omega⟩, fun y hy => absurd hy (Nat.not_lt_zero _)⟩
  | succ k ih =>
    intro hk
    obtain ⟨i1, i2⟩ := ih (by omega)
    have hb : 0 ≤ trn l k ∧ trn l k ≤ 15 := (h _ (getD_memI (k := k) (by omega))).1
    have e : tcI l (k + 1) = if tcI l k < trn l k + 1 then trn l k + 1 else tcI l k := rfl
    rw [e]
    refine ⟨by split <;> omega, fun y hy => ?_⟩
    rcases Nat.lt_or_ge y k with g | g
    · have := i2 y g
      split <;> omega
    · obtain rfl : y = k := by omega
      split <;> omega
set_option maxRecDepth 100000 in
set_option maxHeartbeats 800000 in
theorem trainCount_any (l : List It) (A : Option Addr) (c L : Nat) (hL : L = l.length) (hv : ∀ p ∈ l, okI p) (w : World) (h : IRow w A l) :
    Calls Tryz.prog 66 #[.slice A L c] w fun e w' => e = .returned (.int .i64 (tcI l l.length)) ∧ Below w.heap.size w w' := by
  have hl : L ≤ 9223372036854775807 := by rw [hL]; exact h.len
  have H := Lib.hid h
  have HL := Lib.hid hL
  have HV := Lib.hid hv
  rw [← hL]
  clear h hL hv
  go_enter Tryz.func66, Tryz.ntmps66
  go_wp2_with fail
  go_loopw [3, 8] (fun mv iv wr => ∃ k : Nat, k ≤ L ∧ iv = .int .i64 (k : Int) ∧ mv = .int .i64 (tcI l k) ∧ Hid (Below w.heap.size w wr)) (fun _ iv _ => L - (intOf iv).toNat)
  case atStart => exact ⟨0, by omega, rfl, rfl, Lib.hid (Below.refl _ _)⟩
  case round =>
    obtain ⟨k, hk, rfl, rfl, BR⟩ := hrel
    by_cases hlt : k < L
    · have hkl : k < l.length := by rw [← HL.out]; exact hlt
      obtain ⟨aA, rfl, CE⟩ := (H.out.below BR.out).at_ k hkl
      obtain ⟨c0, c1, c2, c3⟩ := CE.spelt
      replace c0 : wr.cell? (aA.add (k * 4)) = some (.int .i64 (trn l k)) := c0
      have hki : (k : Int) < (L : Int) := by omega
      have hb : 0 ≤ trn l k ∧ trn l k ≤ 15 := (HV.out _ (getD_memI hkl)).1
      have hN : tcI l (k + 1) = max2 (tcI l k) (trn l k + 1) := rfl
      have HN := Lib.hid hN
      have BR2 := Lib.hid (BR.out.alloc BR.out.size (.cells #[.int .i64 (l.getD k it0).1, .int .i64 (l.getD k it0).2.1, .int .i64 (l.getD k it0).2.2.1, .int .i64 (l.getD k it0).2.2.2] 52))
      have BR2 : Hid (Below w.heap.size w (wr.alloc (.cells #[.int .i64 (trn l k), .int .i64 (l.getD k it0).2.1, .int .i64 (l.getD k it0).2.2.1, .int .i64 (l.getD k it0).2.2.2] 52))) := BR2
      clear CE hN BR
      generalize trn l k = tr at *
      generalize (l.getD k it0).2.1 = bl at *
      generalize (l.getD k it0).2.2.1 = ro at *
      generalize (l.getD k it0).2.2.2 = le at *
      obtain ⟨m2, hm2⟩ : ∃ m, m = max2 (tcI l k) (tr + 1) := ⟨_, rfl⟩
      obtain ⟨m0, hm0⟩ : ∃ m, m = tcI l k := ⟨_, rfl⟩
      rw [← hm0] at hm2 ⊢
      have hmx : ∀ w ts t, (Builtin.max_ ts t #[.int .i64 m0, .int .i64 (tr + 1)]).run Tryz.prog w = .ok (.int .i64 m2) w := fun w ts t => by rw [run_max2, hm2]
      have HN2 := Lib.hid (show m2 = tcI l (k + 1) by rw [hm2, hm0]; exact HN.out.symm)
      clear hm2 hm0 HN
      go_wp2_with fail
      go_roundw
      case rel => exact ⟨k + 1, by omega, by go_num, by rw [HN2.out], BR2⟩
      case measure => simp [intOf]; omega
    · obtain rfl : k = L := by omega
      go_wp2_with fail
      go_ret
      exact ⟨rfl, BR.out⟩
end Go.Proofs.YtimkmieohkefiaaGreat

namespace Go.Proofs.YtimkmieohkefiaaGreat
open Go.RowKit Go.Lib

/-- The blocks of F have stayed. -/
structure Kp (F : Nat → Prop) (w w' : World) : Prop where
  os : w'.os = w.os
  tape : w'.tape = w.tape
  output : w'.output = w.output
  size : w.heap.size ≤ w'.heap.size
  block : ∀ k, F k → w'.heap[k]? = w.heap[k]?
section
variable {F G : Nat → Prop} {w w' w'' : World}
theorem Kp.refl (F : Nat → Prop) (w : World) : Kp F w w := ⟨rfl, rfl, rfl, Nat.le_refl _, fun _ _ => rfl⟩
theorem Kp.trans (h : Kp F w w') (k : Kp F w' w'') : Kp F w w'' :=
  ⟨k.os.trans h.os, k.tape.trans h.tape, k.output.trans h.output, Nat.le_trans h.size k.size, fun i hi => (k.block i hi).trans (h.block i hi)⟩
theorem Kp.weak (h : Kp F w w') (k : ∀ i, G i → F i) : Kp G w w' := ⟨h.os, h.tape, h.output, h.size, fun i hi => h.block i (k i hi)⟩
theorem Kp.of_below {B : Nat} (h : Below B w w') (k : ∀ i, F i → i < B) : Kp F w w' := ⟨h.os, h.tape, h.output, h.size, fun i hi => h.block i (k i hi)⟩
theorem Kp.below {B : Nat} (h : Kp F w w') (k : ∀ i, i < B → F i) : Below B w w' := ⟨h.os, h.tape, h.output, h.size, fun i hi => h.block i (k i hi)⟩
theorem Kp.drewN (h : Kp F w w') (n : Nat) : Kp F w (w'.drewN n) := ⟨h.os, h.tape, h.output, h.size, h.block⟩
theorem Kp.setCell (h : Kp F w w') {p : Addr} (hp : ¬ F p.block) (u : Value) : Kp F w (w'.setCell p u) :=
  ⟨h.os, h.tape, h.output, by rw [World.size_setCell]; exact h.size, fun i hi => by
    rw [Below.heap_setCell _ _ _ _ (fun e => hp (by rw [← e]; exact hi))]; exact h.block i hi⟩
theorem Kp.cell (h : Kp F w w') {p : Addr} (hp : F p.block) : w'.cell? p = w.cell? p := World.cell?_of_block (w := w) (h.block p.block hp)
theorem Kp.frozen (h : Kp F w w') {p : Addr} (hp : F p.block) : w'.frozen? p = w.frozen? p := World.frozen?_of_block (w := w) (h.block p.block hp)
end
/-- Two lists of lists of the call's own that lie apart, and apart from the blocks of F. -/
structure Two (F : Nat → Prop) (w : World) (gs gt base : Nat) (st tr : List (List Nat)) : Prop where
  ex : ∃ vs vt, OL w gs base vs (st.map toZ) ∧ OL w gt base vt (tr.map toZ) ∧ (∀ (i j : Nat) u v, vs[i]? = some u → vt[j]? = some v → Apt u v) ∧
    (∀ k, F k → ∀ (i : Nat) u, vs[i]? = some u → u.ownBlock ≠ some k) ∧ (∀ k, F k → ∀ (i : Nat) u, vt[i]? = some u → u.ownBlock ≠ some k)
  ne : gs ≠ gt
  fs : ∀ k, F k → k < w.heap.size ∧ k ≠ gs ∧ k ≠ gt
section
variable {F : Nat → Prop} {w w' : World} {gs gt base : Nat} {st tr : List (List Nat)}
theorem Two.symm (h : Two F w gs gt base st tr) : Two F w gt gs base tr st := by
  obtain ⟨⟨vs, vt, h1, h2, h3, h4, h5⟩, h6, h7⟩ := h
  exact ⟨⟨vt, vs, h2, h1, fun i j u v hu hv => (h3 j i v u hv hu).symm, h5, h4⟩, Ne.symm h6, fun k hk => ⟨(h7 k hk).1, (h7 k hk).2.2, (h7 k hk).2.1⟩⟩
theorem Two.below (h : Two F w gs gt base st tr) (k : Below w.heap.size w w') : Two F w' gs gt base st tr := by
  obtain ⟨⟨vs, vt, h1, h2, h3, h4, h5⟩, h6, h7⟩ := h
  exact ⟨⟨vs, vt, h1.below k, h2.below k, h3, h4, h5⟩, h6, fun i hi => ⟨Nat.lt_of_lt_of_le (h7 i hi).1 k.size, (h7 i hi).2⟩⟩
theorem Two.drewN (h : Two F w gs gt base st tr) (n : Nat) : Two F (w.drewN n) gs gt base st tr := h.below ⟨rfl, rfl, rfl, Nat.le_refl _, fun _ _ => rfl⟩
theorem Two.weak {G : Nat → Prop} (h : Two F w gs gt base st tr) (k : ∀ i, G i → F i) : Two G w gs gt base st tr := by
  obtain ⟨⟨vs, vt, h1, h2, h3, h4, h5⟩, h6, h7⟩ := h
  exact ⟨⟨vs, vt, h1, h2, h3, fun i hi => h4 i (k i hi), fun i hi => h5 i (k i hi)⟩, h6, fun i hi => h7 i (k i hi)⟩
theorem Two.old {B : Nat} (h : Two F w gs gt base st tr) (hB : B ≤ base) (hs : B ≤ gs) (ht : B ≤ gt) : Two (fun k => F k ∨ k < B) w gs gt base st tr := by
  obtain ⟨⟨vs, vt, h1, h2, h3, h4, h5⟩, h6, h7⟩ := h
  have key : ∀ (g : Nat) us ts, OL w g base us ts → ∀ k, k < B → ∀ (i : Nat) u, us[i]? = some u → u.ownBlock ≠ some k := fun g us ts o k hk i u hu e => by
    have hil : i < ts.length := by rw [← o.len]; exact (List.getElem?_eq_some_iff.1 hu).1
    have := (own_block (o.own i u _ hu (List.getElem?_eq_getElem hil)) e).1
    omega
  refine ⟨⟨vs, vt, h1, h2, h3, fun k hk => ?_, fun k hk => ?_⟩, h6, fun k hk => ?_⟩
  · rcases hk with hk | hk
    · exact h4 k hk
    · exact key gs vs _ h1 k hk
  · rcases hk with hk | hk
    · exact h5 k hk
    · exact key gt vt _ h2 k hk
  · rcases hk with hk | hk
    · exact h7 k hk
    · exact ⟨Nat.lt_of_lt_of_le hk (Nat.le_trans hs (Nat.le_of_lt h1.lt)), by omega, by omega⟩
/-- A further block that none of the lists owns. -/
theorem Two.more (h : Two F w gs gt base st tr) {b : Nat} (hb : b < base) (hs : b ≠ gs) (ht : b ≠ gt) : Two (fun k => F k ∨ k = b) w gs gt base st tr := by
  obtain ⟨⟨vs, vt, h1, h2, h3, h4, h5⟩, h6, h7⟩ := h
  have key : ∀ (g : Nat) us ts, OL w g base us ts → ∀ (i : Nat) u, us[i]? = some u → u.ownBlock ≠ some b := fun g us ts o i u hu e => by
    have hil : i < ts.length := by rw [← o.len]; exact (List.getElem?_eq_some_iff.1 hu).1
    have := (own_block (o.own i u _ hu (List.getElem?_eq_getElem hil)) e).1
    omega
  refine ⟨⟨vs, vt, h1, h2, h3, fun k hk => ?_, fun k hk => ?_⟩, h6, fun k hk => ?_⟩
  · rcases hk with hk | rfl
    · exact h4 k hk
    · exact key gs vs _ h1
  · rcases hk with hk | rfl
    · exact h5 k hk
    · exact key gt vt _ h2
  · rcases hk with hk | rfl
    · exact h7 k hk
    · exact ⟨Nat.lt_of_lt_of_le hb h1.le, hs, ht⟩
/-- A block that came later. -/
theorem Two.fresh (h : Two F w gs gt base st tr) (k : Below w.heap.size w w') {b : Nat} (hb : w.heap.size ≤ b) (hl : b < w'.heap.size) : Two (fun k => F k ∨ k = b) w' gs gt base st tr := by
  obtain ⟨⟨vs, vt, h1, h2, h3, h4, h5⟩, h6, h7⟩ := h
  have key : ∀ (g : Nat) us ts, OL w g base us ts → ∀ (i : Nat) u, us[i]? = some u → u.ownBlock ≠ some b := fun g us ts o i u hu e => by
    have hil : i < ts.length := by rw [← o.len]; exact (List.getElem?_eq_some_iff.1 hu).1
    have := (own_block (o.own i u _ hu (List.getElem?_eq_getElem hil)) e).2
    omega
  refine ⟨⟨vs, vt, h1.below k, h2.below k, h3, fun j hj => ?_, fun j hj => ?_⟩, h6, fun j hj => ?_⟩
  · rcases hj with hj | rfl
    · exact h4 j hj
    · exact key gs vs _ h1
  · rcases hj with hj | rfl
    · exact h5 j hj
    · exact key gt vt _ h2
  · rcases hj with hj | rfl
    · exact ⟨Nat.lt_of_lt_of_le (h7 j hj).1 k.size, (h7 j hj).2⟩
    · have := h1.lt
      have := h2.lt
      omega
theorem Two.lts (h : Two F w gs gt base st tr) : gs < w.heap.size ∧ gs < base ∧ base ≤ w.heap.size := by
  obtain ⟨⟨vs, vt, h1, _⟩, _⟩ := h
  exact ⟨h1.lt, h1.gb, h1.le⟩
theorem Two.ltt (h : Two F w gs gt base st tr) : gt < w.heap.size ∧ gt < base := ⟨h.symm.lts.1, h.symm.lts.2.1⟩
theorem getD_ls {ls : List (List Nat)} {k : Nat} (h : k < ls.length) : (ls.map toZ)[k]? = some (toZ (ls.getD k [])) := by
  rw [List.getElem?_map, List.getElem?_eq_getElem h, List.getD_eq_getElem?_getD, List.getElem?_eq_getElem h]; rfl
theorem map_setZ (ls : List (List Nat)) (k : Nat) (p : List Nat) (x : Nat) : (ls.map toZ).set k (toZ p ++ [(x : Int)]) = (ls.set k (p ++ [x])).map toZ := by
  rw [List.map_set, toZ_app]; rfl
/-- What is read of list k of the first, and what an append to it leaves. -/
structure AtS (F : Nat → Prop) (w : World) (gs gt base : Nat) (st tr : List (List Nat)) (k : Nat) (v : Value) : Prop where
  cell : w.cell? ⟨gs, k, none⟩ = some v
  own : Own .i64 3 w base v (toZ (st.getD k []))
  app : ∀ (W : World), Below w.heap.size w W → ∀ (x : Nat) v' w', AppI base v (toZ (st.getD k [])) (x : Int) W v' w' →
    w'.cell? ⟨gs, k, none⟩ = some v ∧ w'.frozen? ⟨gs, k, none⟩ = false ∧ Two F (w'.setCell ⟨gs, k, none⟩ v') gs gt base (st.set k (st.getD k [] ++ [x])) tr ∧ Kp F w w' ∧ Kp F w (w'.setCell ⟨gs, k, none⟩ v')
theorem OL.other {g g2 : Nat} {vs us : List Value} {ts rs : List (List Int)} {k : Nat} {v v' : Value} {t : List Int} {y : Int} (h : OL w g base vs ts) (o : OL w g2 base us rs) (hne : g ≠ g2)
    (ap : ∀ (i j : Nat) u z, vs[i]? = some u → us[j]? = some z → Apt u z) (hv : vs[k]? = some v) (ht : ts[k]? = some t) (A : AppI base v t y w v' w') :
    OL (w'.setCell ⟨g, k, none⟩ v') g2 base us rs ∧ ∀ (i j : Nat) u z, (vs.set k v')[i]? = some u → us[j]? = some z → Apt u z := by
  obtain ⟨O', hg, g', c, rfl, hlt, hat⟩ := A
  have O := h.own k v t hv ht
  have hvb : ∀ j, v.ownBlock = some j → base ≤ j := fun j hj => (own_block O hj).1
  have hb : w'.heap[g2]? = some (.cells us.toArray 22 (0, 0)) := (hg.block g2 o.lt (fun e => by have := hvb g2 e.symm; have := o.gb; omega)).trans o.blk
  refine ⟨⟨?_, o.len, fun j u s hu hs => ?_, o.apt, o.gb, by rw [World.size_setCell]; exact Nat.le_trans o.le hg.size⟩, fun i j u z hu hz => ?_⟩
  · rw [Below.heap_setCell _ _ _ _ (Ne.symm hne)]; exact hb
  · have Oj := o.own j u s hu hs
    have k1 : Own .i64 3 w' base u s := Oj.kept hg (by
      cases hq : u.ownBlock with
      | none => exact Or.inl rfl
      | some q => exact Or.inr (fun e2 => ap k j v u hv hu q e2.symm hq))
    refine k1.kept (setCell_grown w' ⟨g, k, none⟩ _) ?_
    cases hq : u.ownBlock with
    | none => exact Or.inl rfl
    | some q => exact Or.inr (fun e2 => absurd (show q = g by simpa using e2) (by have h1 := (own_block Oj hq).1; have := h.gb; omega))
  · rw [List.getElem?_set] at hu
    by_cases e : k = i
    · rw [if_pos e, if_pos (List.getElem?_eq_some_iff.1 hv).1] at hu
      injection hu with hu
      subst hu
      intro b hb1 hb2
      have e1 : g' = b := by simpa [Value.ownBlock] using hb1
      subst e1
      rcases hat with e2 | e2
      · exact ap k j v z hv hz g' e2 hb2
      · have hjl : j < rs.length := by rw [← o.len]; exact (List.getElem?_eq_some_iff.1 hz).1
        have := (own_block (o.own j z _ hz (List.getElem?_eq_getElem hjl)) hb2).2
        omega
    · rw [if_neg e] at hu
      exact ap i j u z hu hz
theorem Two.at_ (h : Two F w gs gt base st tr) {k : Nat} (hk : k < st.length) : ∃ v, AtS F w gs gt base st tr k v := by
  obtain ⟨⟨vs, vt, h1, h2, h3, h4, h5⟩, h6, h7⟩ := h
  have hkv : k < vs.length := by rw [h1.len, List.length_map]; exact hk
  have hv := List.getElem?_eq_getElem hkv
  have ht := getD_ls hk
  refine ⟨_, h1.cell hv, h1.own k _ _ hv ht, fun W B x v' w' A => ?_⟩
  have o1 := h1.below B
  have o2 := h2.below B
  obtain ⟨a1, a2, a3⟩ := o1.app hv ht A
  obtain ⟨b1, b2⟩ := o1.other o2 h6 h3 hv ht A
  have hA := A
  obtain ⟨O', hg, g', c, rfl, hlt, hat⟩ := hA
  have nk : ∀ j, F j → j ≠ g' := fun j hj e => by
    subst e
    rcases hat with e2 | e2
    · exact h4 j hj k _ hv e2
    · have := (h7 j hj).1; have := B.size; omega
  have kp : Kp F w w' := ⟨hg.os.trans B.os, hg.tape.trans B.tape, hg.output.trans B.output, Nat.le_trans B.size hg.size, fun j hj => (hg.block j (Nat.lt_of_lt_of_le (h7 j hj).1 B.size) (fun e => h4 j hj k _ hv e.symm)).trans (B.block j (h7 j hj).1)⟩
  rw [map_setZ] at a3
  refine ⟨a1, a2, ⟨⟨_, vt, a3, b1, b2, fun j hj i u hu => ?_, h5⟩, h6, fun j hj => ⟨by rw [World.size_setCell]; exact Nat.lt_of_lt_of_le (h7 j hj).1 kp.size, (h7 j hj).2⟩⟩, kp, kp.setCell (fun e => (h7 gs e).2.1 rfl) _⟩
  rw [List.getElem?_set] at hu
  by_cases e : k = i
  · rw [if_pos e, if_pos hkv] at hu
    injection hu with hu
    subst hu
    intro e2
    exact nk j hj (by have : g' = j := by simpa [Value.ownBlock] using e2
                      exact this.symm)
  · rw [if_neg e] at hu
    exact h4 j hj i u hu
/-- List k of the first is put to nil, and what it had is the caller's. -/
theorem Two.cut (h : Two F w gs gt base st tr) {k : Nat} (hk : k < st.length) : ∃ v, w.cell? ⟨gs, k, none⟩ = some v ∧ w.frozen? ⟨gs, k, none⟩ = false ∧ Own .i64 3 w base v (toZ (st.getD k [])) ∧
    Two (fun j => F j ∨ v.ownBlock = some j) (w.setCell ⟨gs, k, none⟩ (.slice none 0 0)) gs gt base (st.set k []) tr ∧ Own .i64 3 (w.setCell ⟨gs, k, none⟩ (.slice none 0 0)) base v (toZ (st.getD k [])) ∧ Kp F w (w.setCell ⟨gs, k, none⟩ (.slice none 0 0)) := by
  obtain ⟨⟨vs, vt, h1, h2, h3, h4, h5⟩, h6, h7⟩ := h
  have hkv : k < vs.length := by rw [h1.len, List.length_map]; exact hk
  have hv := List.getElem?_eq_getElem hkv
  have ht := getD_ls hk
  obtain ⟨v, ev⟩ : ∃ v, v = vs[k] := ⟨_, rfl⟩
  rw [← ev] at hv
  have O := h1.own k v _ hv ht
  have gsn : ∀ (u : Value) zs, Own .i64 3 w base u zs → Own .i64 3 (w.setCell ⟨gs, k, none⟩ (.slice none 0 0)) base u zs := fun u zs o => o.kept (setCell_grown w ⟨gs, k, none⟩ _) (by
    cases hq : u.ownBlock with
    | none => exact Or.inl rfl
    | some q => exact Or.inr (fun e2 => absurd (show q = gs by simpa using e2) (by have := (own_block o hq).1; have := h1.gb; omega)))
  have o1 : OL (w.setCell ⟨gs, k, none⟩ (.slice none 0 0)) gs base (vs.set k (.slice none 0 0)) ((st.set k []).map toZ) := by
    refine ⟨?_, by simp [h1.len], fun j u s hu hs => ?_, fun i j u s hij hu hs => ?_, h1.gb, by rw [World.size_setCell]; exact h1.le⟩
    · rw [heap_setCell_same w gs k _ 22 _ h1.blk]; simp
    · rw [List.map_set] at hs
      rw [List.getElem?_set] at hu hs
      by_cases e : k = j
      · rw [if_pos e, if_pos hkv] at hu
        rw [if_pos e, if_pos (by rw [List.length_map]; exact hk)] at hs
        injection hu with hu
        injection hs with hs
        subst hu; subst hs
        exact Own.nil
      · rw [if_neg e] at hu hs
        exact gsn u s (h1.own j u s hu hs)
    · intro b hb1 hb2
      rw [List.getElem?_set] at hu hs
      by_cases e : k = i
      · rw [if_pos e, if_pos hkv] at hu
        injection hu with hu
        subst hu; cases hb1
      · rw [if_neg e] at hu
        by_cases e2 : k = j
        · rw [if_pos e2, if_pos hkv] at hs
          injection hs with hs
          subst hs; cases hb2
        · rw [if_neg e2] at hs
          exact h1.apt i j u s hij hu hs b hb1 hb2
  have o2 : OL (w.setCell ⟨gs, k, none⟩ (.slice none 0 0)) gt base vt (tr.map toZ) :=
    ⟨by rw [Below.heap_setCell _ _ _ _ (Ne.symm h6)]; exact h2.blk, h2.len, fun j u s hu hs => gsn u s (h2.own j u s hu hs), h2.apt, h2.gb, by rw [World.size_setCell]; exact h2.le⟩
  have sub : ∀ (i : Nat) u, (vs.set k (.slice none 0 0))[i]? = some u → u.ownBlock = none ∨ (i ≠ k ∧ vs[i]? = some u) := fun i u hu => by
    rw [List.getElem?_set] at hu
    by_cases e : k = i
    · rw [if_pos e, if_pos hkv] at hu
      injection hu with hu; subst hu; exact Or.inl rfl
    · rw [if_neg e] at hu; exact Or.inr ⟨Ne.symm e, hu⟩
  refine ⟨v, h1.cell hv, frozen_of_row w gs k _ 22 h1.blk, O, ⟨⟨_, vt, o1, o2, fun i j u z hu hz => ?_, fun j hj i u hu => ?_, fun j hj i u hu => ?_⟩, h6, fun j hj => ?_⟩, gsn _ _ O, (Kp.refl F w).setCell (fun e => (h7 gs e).2.1 rfl) _⟩
  · rcases sub i u hu with e | ⟨_, e⟩
    · intro b hb; rw [e] at hb; cases hb
    · exact h3 i j u z e hz
  · rcases sub i u hu with e | ⟨hik, e⟩
    · rw [e]; simp
    · rcases hj with hj | hj
      · exact h4 j hj i u e
      · exact h1.apt k i v u (Ne.symm hik) hv e j hj
  · rcases hj with hj | hj
    · exact h5 j hj i u hu
    · exact h3 k i v u hv hu j hj
  · rw [World.size_setCell]
    rcases hj with hj | hj
    · exact h7 j hj
    · have := own_block O hj
      have := h1.gb
      have := h2.gb
      omega
theorem Two.len (h : Two F w gs gt base st tr) {vs : Nat} : True := trivial
theorem Two.pps (h : Two F w gs gt base st tr) : PP w (some ⟨gs, 0, none⟩) (st.map toZ) := by
  obtain ⟨⟨vs, vt, h1, _⟩, _⟩ := h
  exact h1.pp
theorem Two.ppt (h : Two F w gs gt base st tr) : PP w (some ⟨gt, 0, none⟩) (tr.map toZ) := h.symm.pps
end
/-- An append in a region that draws. -/
theorem AnyT.appI {ops : Array Oper} {Q : Exit → Act → World → Prop} {S : World → Prop} {tl : Nat → Bool} {i : Nat} {o : Oper} {fuel : Nat} {listed : Array Bool} {a : Act} {W : World} {d : Option Tmp} (ho : ops[i]? = some o) (hgd : o.guard = none) (hd : o.dst = d) (s x : Operand)
    (hop : o.op = .call { callee := .builtin .append, args := #[s, x], argTypes := #[22, 22] }) (base : Nat) (v : Value) (zs : List Int) (hs : a.eval s = v) (O : Own .i64 3 W base v zs)
    (y : Int) (w0 : World) (hW : W = w0.alloc (.cells #[.int .i64 y] 3)) (z : Nat) (hz : w0.heap.size = z) (c : Nat) (hx : a.eval x = .slice (some ⟨z, 0, none⟩) 1 c)
    (hl : zs.length + 1 ≤ 1000000000) (hb : base ≤ W.heap.size)
    (h : ∀ v' w', AppI base v zs y W v' w' → (tl i = false → S w') ∧ AnyT Tryz.prog ops Q S tl fuel (listed.setIfInBounds i true) (a.put d v') w') :
    wpOp Tryz.prog ops Q i (fun a' w' => (tl i = false → S w') ∧ AnyT Tryz.prog ops Q S tl fuel (listed.setIfInBounds i true) a' w') a W :=
  AnyT.step ho (fun KK hK => by
    subst hd
    exact step_appI W hgd s x hop base v zs hs O y w0 hW z hz c hx hl hb (fun v' w' A => hK.out _ _ (h v' w' A).1 (h v' w' A).2))
/-- The operations from number n on. -/
def tlGe (n i : Nat) : Bool := decide (n ≤ i)
end Go.Proofs.YtimkmieohkefiaaGreat

namespace Go.Proofs.YtimkmieohkefiaaGreat
open Go.RowKit Go.Lib

/-- Codes, rounds and trains as numbers. -/
def cdN (v : List Int) (x : Nat) : Nat := (v.getD x 0).toNat
def rdN (l : List It) (x : Nat) : Nat := (rnd l x).toNat
def tnN (l : List It) (x : Nat) : Nat := (trn l x).toNat
theorem vwI_asc {r : Int} {l : List It} (h : vwI r l = 0) : (∀ y, y < l.length → r ≤ rnd l y) ∧ ∀ x y, x ≤ y → y < l.length → rnd l x ≤ rnd l y := by
  induction l generalizing r with
  | nil => exact ⟨fun y hy => absurd hy (Nat.not_lt_zero _), fun x y _ hy => absurd hy (Nat.not_lt_zero _)⟩
  | cons p l ih =>
    have e : (if okI p then (if p.2.2.1 < r then 12 else vwI p.2.2.1 l) else 2) = (0 : Int) := h
    by_cases ho : okI p
    · rw [if_pos ho] at e
      by_cases hr : p.2.2.1 < r
      · rw [if_pos hr] at e; omega
      · rw [if_neg hr] at e
        obtain ⟨i1, i2⟩ := ih e
        have f0 : rnd (p :: l) 0 = p.2.2.1 := rfl
        have fs : ∀ y, rnd (p :: l) (y + 1) = rnd l y := fun y => rfl
        refine ⟨fun y hy => ?_, fun x y hxy hy => ?_⟩
        · cases y with
          | zero => rw [f0]; omega
          | succ y => rw [fs]; have := i1 y (by simp at hy; omega); omega
        · cases y with
          | zero => obtain rfl : x = 0 := by omega
                    exact Int.le_refl _
          | succ y =>
            rw [fs]
            cases x with
            | zero => rw [f0]; exact i1 y (by simp at hy; omega)
            | succ x => rw [fs]; exact i2 x y (by omega) (by simp at hy; omega)
    · rw [if_neg ho] at e; omega
theorem rnd_asc {l : List It} {wt : Int} (h : validR l wt = 0) : ∀ x y, x ≤ y → y < l.length → rnd l x ≤ rnd l y := by
  have hw := (formOk_of h).wb
  have hl := (valid_ok h).1
  unfold validR at h
  rw [if_neg (by omega), if_pos (btw_iff.2 hw)] at h
  exact (vwI_asc h).2
/-- A plan that fits a valid job. -/
structure Pl (l : List It) (wt : Int) (S : Nat) (v : List Int) : Prop where
  val : validR l wt = 0
  fit : fitB l wt (S : Int) v = true
def tnT (l : List It) : Nat := (tcI l l.length).toNat
section
variable {l : List It} {wt : Int} {S : Nat} {v : List Int}
theorem Pl.s12 (h : Pl l wt S v) : S ≤ 12 := by have := (fitB_iff.1 h.fit).1; omega
theorem Pl.len (h : Pl l wt S v) : v.length = l.length := (fitB_iff.1 h.fit).2.1
theorem Pl.l96 (h : Pl l wt S v) : l.length ≤ 96 := (valid_ok h.val).1
theorem Pl.tn (h : Pl l wt S v) {x : Nat} (hx : x < l.length) : trn l x = (tnN l x : Int) ∧ tnN l x < tnT l := by
  have hb : 0 ≤ trn l x ∧ trn l x ≤ 15 := ((valid_ok h.val).2.1 _ (getD_memI hx)).1
  have h1 := (tcI_bd (valid_ok h.val).2.1 l.length (Nat.le_refl _)).2 x hx
  unfold tnN tnT; omega
theorem Pl.rd (h : Pl l wt S v) {x : Nat} (hx : x < l.length) : rnd l x = (rdN l x : Int) ∧ rdN l x ≤ 12 := by
  have := (formOk_of h.val).rb x hx
  unfold rdN; omega
theorem Pl.cd (h : Pl l wt S v) {x : Nat} (hx : x < l.length) : v.getD x 0 = (cdN v x : Int) ∧ cdN v x < 2 ^ S ∧ isC (rdN l x) wt.toNat (cdN v x) = true := by
  have h1 := (fitB_iff.1 h.fit).2.2 x hx
  unfold okC at h1
  rw [Bool.and_eq_true, decide_eq_true_eq] at h1
  obtain ⟨h2, h3⟩ := h1
  unfold isZ at h3
  simp only [Bool.and_eq_true] at h3
  obtain ⟨h4, h5, h6⟩ := h3
  have h7 := cdB_iff.1 h5
  have e : v.getD x 0 = (cdN v x : Int) := by unfold cdN; omega
  refine ⟨e, ?_, h6⟩
  have h8 : ((cdN v x : Nat) : Int) < ((2 ^ S : Nat) : Int) := by
    rw [← e]
    have h9 : (2 : Int) ^ ((S : Int)).toNat = ((2 ^ S : Nat) : Int) := by simp
    omega
  omega
theorem Pl.fitN (h : Pl l wt S v) : FitN S l.length (tnT l) (cdN v) (rdN l) (tnN l) :=
  ⟨fun x hx => (h.cd hx).2.1, fun x hx => (isC_iff.1 (h.cd hx).2.2).2.1, fun x y hxy hy => by
    have h1 := rnd_asc h.val x y hxy hy
    have h2 := (h.rd (x := x) (by omega)).1
    have h3 := (h.rd hy).1
    omega, fun x hx => (h.tn hx).2⟩
theorem Pl.real (h : Pl l wt S v) {x : Nat} (hx : x < l.length) : realL (v.getD x 0) (rnd l x) = blN (cdN v x) (rdN l x) 12 ∧ realE (v.getD x 0) (rnd l x) = 0 := by
  obtain ⟨h1, h2, h3⟩ := h.cd hx
  obtain ⟨h4, h5⟩ := h.rd hx
  obtain ⟨h6, h7, -⟩ := isC_iff.1 h3
  rw [h1, h4]
  exact real_yes h5 h6 (beq_iff_eq.2 h7)
end
/-- The real bits as numbers: in ascending order, each one of them. -/
def blM (K R : Nat) : Nat → List Nat
  | 0 => []
  | b + 1 => if R ≤ b ∧ K / 2 ^ b % 2 = 1 then blM K R b ++ [b] else blM K R b
theorem blN_toZ (K R : Nat) : ∀ b, blN K R b = toZ (blM K R b) := by
  intro b
  induction b with
  | zero => rfl
  | succ b ih =>
    unfold blN blM
    by_cases g : R ≤ b ∧ K / 2 ^ b % 2 = 1
    · rw [if_pos g, if_pos g, toZ_app, ih]; rfl
    · rw [if_neg g, if_neg g, ih]
theorem blM_mem {K R : Nat} : ∀ b x, x ∈ blM K R b ↔ R ≤ x ∧ x < b ∧ bitN K x = true := by
  intro b
  induction b with
  | zero => intro x; simp [blM]
  | succ b ih =>
    intro x
    unfold blM
    by_cases g : R ≤ b ∧ K / 2 ^ b % 2 = 1
    · rw [if_pos g, List.mem_append, ih, List.mem_singleton]
      have hb : bitN K b = true := by unfold bitN; rw [g.2]; rfl
      constructor
      · rintro (⟨h1, h2, h3⟩ | rfl)
        · exact ⟨h1, by omega, h3⟩
        · exact ⟨g.1, by omega, hb⟩
      · rintro ⟨h1, h2, h3⟩
        by_cases e : x = b
        · exact Or.inr e
        · exact Or.inl ⟨h1, by omega, h3⟩
    · rw [if_neg g, ih]
      constructor
      · rintro ⟨h1, h2, h3⟩; exact ⟨h1, by omega, h3⟩
      · rintro ⟨h1, h2, h3⟩
        refine ⟨h1, ?_, h3⟩
        rcases Nat.lt_or_ge x b with k | k
        · exact k
        · obtain rfl : x = b := by omega
          exact absurd ⟨h1, by unfold bitN at h3; exact beq_iff_eq.1 h3⟩ g
theorem blM_asc {K R : Nat} : ∀ b, (blM K R b).Pairwise (fun x y => x < y) := by
  intro b
  induction b with
  | zero => exact List.Pairwise.nil
  | succ b ih =>
    unfold blM
    by_cases g : R ≤ b ∧ K / 2 ^ b % 2 = 1
    · rw [if_pos g]
      refine List.pairwise_append.2 ⟨ih, List.pairwise_singleton _ _, fun x hx y hy => ?_⟩
      rw [List.mem_singleton] at hy
      have := ((blM_mem b x).1 hx).2.1
      omega
    · rw [if_neg g]; exact ih
/-- A code below 2^S has no bits from S on. -/
theorem bit_high {K S b : Nat} (h : K < 2 ^ S) (hb : S ≤ b) : bitN K b = false := by
  have h1 : 2 ^ S ≤ 2 ^ b := Nat.pow_le_pow_right (by decide) hb
  unfold bitN
  rw [Nat.div_eq_of_lt (by omega)]; rfl
/-- The first of the real bits that is at least t. -/
theorem dst_first {S K R t i : Nat} (hS : S ≤ 12) (hK : K < 2 ^ S) (hR : R ≤ t) (ht : t ≤ S) (hi : i < (blM K R 12).length) (h1 : t ≤ (blM K R 12).getD i 0) (h2 : ∀ j, j < i → (blM K R 12).getD j 0 < t) :
    dst S K t = (blM K R 12).getD i 0 ∧ (blM K R 12).getD i 0 < S := by
  obtain ⟨m1, m2, m3⟩ := (blM_mem 12 _).1 (getD_memN hi)
  have hlt : (blM K R 12).getD i 0 < S := by
    rcases Nat.lt_or_ge ((blM K R 12).getD i 0) S with g | g
    · exact g
    · rw [bit_high hK g] at m3; cases m3
  refine ⟨dst_uniq ht h1 (by omega) (fun _ => m3) (fun b hb1 hb2 => ?_), hlt⟩
  cases hb : bitN K b with
  | false => rfl
  | true =>
    exfalso
    have hm : b ∈ blM K R 12 := (blM_mem 12 b).2 ⟨by omega, by omega, hb⟩
    obtain ⟨j, hj, e⟩ := List.getElem_of_mem hm
    have e' : (blM K R 12).getD j 0 = b := by rw [List.getD_eq_getElem?_getD, List.getElem?_eq_getElem hj]; exact e
    rcases Nat.lt_or_ge j i with g | g
    · have := h2 j g; omega
    · rcases Nat.eq_or_lt_of_le g with g | g
      · subst g; omega
      · have h3 := List.pairwise_iff_getElem.1 (blM_asc (K := K) (R := R) 12) i j hi hj g
        have e2 : (blM K R 12).getD i 0 = (blM K R 12)[i] := by rw [List.getD_eq_getElem?_getD, List.getElem?_eq_getElem hi]; rfl
        rw [e, ← e2] at h3
        omega
theorem dst_last {S K R t : Nat} (hS : S ≤ 12) (hR : R ≤ t) (ht : t ≤ S) (h2 : ∀ j, j < (blM K R 12).length → (blM K R 12).getD j 0 < t) : dst S K t = S := by
  refine dst_uniq ht (by omega) (Nat.le_refl _) (fun h => absurd h (Nat.lt_irrefl _)) (fun b hb1 hb2 => ?_)
  cases hb : bitN K b with
  | false => rfl
  | true =>
    exfalso
    have hm : b ∈ blM K R 12 := (blM_mem 12 b).2 ⟨by omega, by omega, hb⟩
    obtain ⟨j, hj, e⟩ := List.getElem_of_mem hm
    have e' : (blM K R 12).getD j 0 = b := by rw [List.getD_eq_getElem?_getD, List.getElem?_eq_getElem hj]; exact e
    have := h2 j hj
    omega
/-- The program's realBits. -/
theorem realBits_any (k r : Int) (w : World) : Calls Tryz.prog 67 #[.int .i64 k, .int .i64 r] w fun e w' => ∃ v, e = .returned v ∧ Own .i64 3 w' w.heap.size v (realL k r) ∧ Below w.heap.size w w' := by
  have HR := Lib.hid (real_any k r w)
  go_enter Tryz.func67, Tryz.ntmps67
  go_wp2_with fail
  refine HR.out.mono ?_
  rintro e w1 ⟨v, rfl, O, B⟩
  obtain ⟨A, c, ev, -⟩ := O.slice
  have HO := Lib.hid O
  have HB := Lib.hid B
  clear O B HR
  obtain ⟨n, hn⟩ : ∃ n, n = (realL k r).length := ⟨_, rfl⟩
  rw [← hn] at ev
  subst ev
  clear hn
  go_wp2_with fail
  go_ret
  exact ⟨_, rfl, HO.out, HB.out⟩
/-- The box of the program's machine. -/
structure MB (w : World) (b : Nat) (A : Option Addr) (L c : Nat) (pA : Option Addr) (n pc gs S gt T : Nat) (mv pu : Int) : Prop where
  c0 : w.cell? ⟨b, 0, none⟩ = some (.slice A L c)
  c1 : w.cell? ⟨b, 1, none⟩ = some (.slice pA n pc)
  c2 : w.cell? ⟨b, 2, none⟩ = some (.slice (some ⟨gs, 0, none⟩) S S)
  c3 : w.cell? ⟨b, 3, none⟩ = some (.slice (some ⟨gt, 0, none⟩) T T)
  c4 : w.cell? ⟨b, 4, none⟩ = some (.int .i64 mv)
  c5 : w.cell? ⟨b, 5, none⟩ = some (.int .i64 pu)
  f : ∀ j, w.frozen? ⟨b, j, none⟩ = false
  lt : b < w.heap.size
theorem MB.kp {F : Nat → Prop} {w w' : World} {b : Nat} {A : Option Addr} {L c : Nat} {pA : Option Addr} {n pc gs S gt T : Nat} {mv pu : Int} (h : MB w b A L c pA n pc gs S gt T mv pu) (k : Kp F w w') (hb : F b) : MB w' b A L c pA n pc gs S gt T mv pu :=
  ⟨(k.cell (p := ⟨b, 0, none⟩) hb).trans h.c0, (k.cell (p := ⟨b, 1, none⟩) hb).trans h.c1, (k.cell (p := ⟨b, 2, none⟩) hb).trans h.c2, (k.cell (p := ⟨b, 3, none⟩) hb).trans h.c3, (k.cell (p := ⟨b, 4, none⟩) hb).trans h.c4, (k.cell (p := ⟨b, 5, none⟩) hb).trans h.c5, fun j => (k.frozen (p := ⟨b, j, none⟩) hb).trans (h.f j), Nat.lt_of_lt_of_le h.lt k.size⟩
theorem MB.below {w w' : World} {b B : Nat} {A : Option Addr} {L c : Nat} {pA : Option Addr} {n pc gs S gt T : Nat} {mv pu : Int} (h : MB w b A L c pA n pc gs S gt T mv pu) (k : Below B w w') (hb : b < B) : MB w' b A L c pA n pc gs S gt T mv pu :=
  h.kp (Kp.of_below (F := fun i => i = b) k (fun i e => by omega)) rfl
set_option maxRecDepth 100000 in
set_option maxHeartbeats 3200000 in
theorem put_any (F : Nat → Prop) (l : List It) (wt : Int) (S : Nat) (v : List Int) (hpl : Pl l wt S v) (A : Option Addr) (c L : Nat) (hL : L = l.length) (pA : Option Addr) (n pc gs gt T base b x t M : Nat) (mv pu : Int) (st tr : List (List Nat)) (w : World)
    (h : IRow w A l) (hp : Row .i64 w w.heap.size pA v) (hn : n = v.length) (HM : MB w b A L c pA n pc gs S gt T mv pu) (HT : Two F w gs gt base st tr) (hFb : F b) (hst : st.length = S) (htr : tr.length = T) (hT : T = tnT l)
    (hx : x < l.length) (hrt : rdN l x ≤ t) (htS : t ≤ S) (hM : M ≤ 1000000) (hb1 : ∀ k, (st.getD k []).length ≤ M) (hb2 : ∀ k, (tr.getD k []).length ≤ M) :
    Calls Tryz.prog 148 #[.pointer (some ⟨b, 0, none⟩), .int .i64 (x : Int), .int .i64 (t : Int)] w fun e w' => e = .returned (.tuple #[]) ∧ Two F w' gs gt base (putS S (cdN v) t st x) (putT S (cdN v) (tnN l) t tr x) ∧ Kp F w w' := by
  have hS := hpl.s12
  have hL96 : L ≤ 96 := by rw [hL]; exact hpl.l96
  have hT16 : T ≤ 16 := by
    have := (tcI_bd (valid_ok hpl.val).2.1 l.length (Nat.le_refl _)).1
    rw [hT]; unfold tnT; omega
  obtain ⟨aA, rfl, CE⟩ := h.at_ x hx
  obtain ⟨c0, c1, c2, c3⟩ := CE.spelt
  obtain ⟨pad, rfl, plt, cp⟩ := hp x (by rw [hpl.len]; exact hx)
  have hxL : (x : Int) < (L : Int) := by omega
  have hxn : (x : Int) < (n : Int) := by rw [hn, hpl.len]; omega
  have HCE := Lib.hid CE
  obtain ⟨⟨tv, bv, rv, lv⟩, hp4⟩ : ∃ p, p = l.getD x it0 := ⟨_, rfl⟩
  rw [← hp4] at c0 c1 c2 c3 CE
  have hrv : rnd l x = rv := by unfold rnd; rw [← hp4]
  have htv : trn l x = tv := by unfold trn; rw [← hp4]
  have HREAL := Lib.hid (hpl.real hx)
  have HRV := Lib.hid hrv
  have HTV := Lib.hid (show tv = (tnN l x : Int) by rw [← htv]; exact (hpl.tn hx).1)
  have HTN := Lib.hid (hpl.tn hx).2
  have HCD := Lib.hid (hpl.cd hx)
  have P0 := IPl.new (w := w) (p := (tv, bv, rv, lv)) (T := 52) w.heap.size rfl
  have BX := (Below.refl w.heap.size w).alloc (Nat.le_refl _) (.cells #[.int .i64 tv, .int .i64 bv, .int .i64 rv, .int .i64 lv] 52)
  have HM1 := Lib.hid (HM.below BX HM.lt)
  have HT1 := Lib.hid (HT.fresh BX (b := w.heap.size) (Nat.le_refl _) (by simp))
  have HP1 := Lib.hid P0
  have HK1 := Lib.hid (Kp.of_below (F := F) BX (fun i hi => (HT.fs i hi).1))
  have hcd1 := (BX.cell (p := pad.add x) (by rw [add_block]; exact plt)).trans cp
  have HFB := Lib.hid hFb
  have HX := Lib.hid hx
  have HPL := Lib.hid hpl
  have HTT := Lib.hid hT
  have HMB := Lib.hid hb1
  have HMB2 := Lib.hid hb2
  have HSL := Lib.hid hst
  have HTL := Lib.hid htr
  have HRT := Lib.hid hrt
  obtain ⟨m0, m1, m2, m3, m4, m5, mf, mlt⟩ := HM
  obtain ⟨ib, hib⟩ : ∃ i, i = w.heap.size := ⟨_, rfl⟩
  obtain ⟨vx, hvx⟩ : ∃ vx, vx = v.getD x 0 := ⟨_, rfl⟩
  rw [← hvx] at hcd1 HREAL cp
  rw [HRV.out] at HREAL
  clear h hp hp4 hrv htv HT hFb hx CE HCE hL hn hT hb1 hb2 BX P0 hst htr hrt mf hvx
  go_enter Tryz.func148, Tryz.ntmps148
  go_upto_region 1 with fail
  clear m0 m1 m2 m3 m4 m5 mlt c0 c1 c2 c3 cp
  rw [← hib] at HP1 HT1 ⊢
  have HKP := Lib.hid (fun (W : World) (k : Kp F (w.alloc (.cells #[.int .i64 tv, .int .i64 bv, .int .i64 rv, .int .i64 lv] 52)) W) => HK1.out.trans k)
  generalize w.alloc (.cells #[.int .i64 tv, .int .i64 bv, .int .i64 rv, .int .i64 lv] 52) = w1 at *
  clear hib HK1
  obtain ⟨q0, e0⟩ : ∃ q, q = w1.drew := ⟨_, rfl⟩
  have F0 : q0.cell? ⟨b, 1, none⟩ = some (.slice (some pad) n pc) ∧ q0.cell? (pad.add x) = some (.int .i64 vx) ∧ q0.cell? ⟨ib, 2, none⟩ = some (.int .i64 rv) := by
    rw [e0]; exact ⟨HM1.out.c1, hcd1, HP1.out.c2⟩
  have B0 := Lib.hid (show Below w1.heap.size w1 q0 by rw [e0]; exact ⟨rfl, rfl, rfl, Nat.le_refl _, fun _ _ => rfl⟩)
  have HPX := Lib.hid (show ∀ W, Below w1.heap.size w1 W → W.cell? ⟨b, 1, none⟩ = some (.slice (some pad) n pc) ∧ W.cell? (pad.add x) = some (.int .i64 vx) ∧ W.cell? ⟨ib, 2, none⟩ = some (.int .i64 rv) from fun W k =>
    ⟨(k.cell (p := ⟨b, 1, none⟩) HM1.out.lt).trans HM1.out.c1, (k.cell (p := pad.add x) (lt_of_cell hcd1)).trans hcd1, (k.cell (p := ⟨ib, 2, none⟩) HP1.out.lt).trans HP1.out.c2⟩)
  have HE0 := Lib.hid e0
  clear e0 hcd1
  refine AnyT.begin_at tlN (fun X => X.cell? ⟨b, 1, none⟩ = some (.slice (some pad) n pc) ∧ X.cell? (pad.add x) = some (.int .i64 vx) ∧ X.cell? ⟨ib, 2, none⟩ = some (.int .i64 rv)) (by kernel_rfl) HE0.out F0 ?_
  clear F0
  intro F0
-- TAKES A1
  refine AnyT.takeD (i := 0) (d := some 16) (v := .pointer (some ⟨b, 0, none⟩)) rfl rfl (by kernel_rfl) (by kernel_rfl) (by kernel_rfl) (by kernel_rfl) (fun _ _ _ h => h) (Or.inl ⟨by rfl, fun wz _ => by go_simp⟩) F0 ?_
  simp only [Act.put, List.setIfInBounds_toArray, List.set_cons_zero, List.set_cons_succ]
  refine AnyT.takeD (i := 1) (d := some 17) (v := .pointer (some ⟨b, 0, none⟩)) rfl rfl (by kernel_rfl) (by kernel_rfl) (by kernel_rfl) (by kernel_rfl) (fun _ _ _ h => h) (Or.inl ⟨by rfl, fun wz _ => by go_simp⟩) F0 ?_
  simp only [Act.put, List.setIfInBounds_toArray, List.set_cons_zero, List.set_cons_succ]
  refine AnyT.takeD (i := 2) (d := some 18) (v := .pointer (some ⟨b, 1, none⟩)) rfl rfl (by kernel_rfl) (by kernel_rfl) (by kernel_rfl) (by kernel_rfl) (fun _ _ _ h => h) (Or.inl ⟨by rfl, fun wz _ => by go_simp⟩) F0 ?_
  simp only [Act.put, List.setIfInBounds_toArray, List.set_cons_zero, List.set_cons_succ]
  refine AnyT.takeD (i := 3) (d := some 19) (v := .slice (some pad) n pc) rfl rfl (by kernel_rfl) (by kernel_rfl) (by kernel_rfl) (by kernel_rfl) (fun _ _ _ h => h) (Or.inl ⟨by rfl, fun wz hz => by obtain ⟨z0, z1, z2⟩ := hz; go_simp⟩) F0 ?_
  simp only [Act.put, List.setIfInBounds_toArray, List.set_cons_zero, List.set_cons_succ]
  refine AnyT.takeD (i := 4) (d := some 20) (v := .int .i64 (x : Int)) rfl rfl (by kernel_rfl) (by kernel_rfl) (by kernel_rfl) (by kernel_rfl) (fun _ _ _ h => h) (Or.inl ⟨by rfl, fun wz _ => by go_simp⟩) F0 ?_
  simp only [Act.put, List.setIfInBounds_toArray, List.set_cons_zero, List.set_cons_succ]
  refine AnyT.takeD (i := 5) (d := some 21) (v := .pointer (some (pad.add x))) rfl rfl (by kernel_rfl) (by kernel_rfl) (by kernel_rfl) (by kernel_rfl) (fun _ _ _ h => h) (Or.inl ⟨by rfl, fun wz _ => by go_simp⟩) F0 ?_
  simp only [Act.put, List.setIfInBounds_toArray, List.set_cons_zero, List.set_cons_succ]
  refine AnyT.takeD (i := 6) (d := some 22) (v := .int .i64 vx) rfl rfl (by kernel_rfl) (by kernel_rfl) (by kernel_rfl) (by kernel_rfl) (fun _ _ _ h => h) (Or.inl ⟨by rfl, fun wz hz => by obtain ⟨z0, z1, z2⟩ := hz; go_simp⟩) F0 ?_
  simp only [Act.put, List.setIfInBounds_toArray, List.set_cons_zero, List.set_cons_succ]
  refine AnyT.takeD (i := 7) (d := some 23) (v := .pointer (some ⟨ib, 2, none⟩)) rfl rfl (by kernel_rfl) (by kernel_rfl) (by kernel_rfl) (by kernel_rfl) (fun _ _ _ h => h) (Or.inl ⟨by rfl, fun wz _ => by go_simp⟩) F0 ?_
  simp only [Act.put, List.setIfInBounds_toArray, List.set_cons_zero, List.set_cons_succ]
  refine AnyT.takeD (i := 8) (d := some 24) (v := .int .i64 rv) rfl rfl (by kernel_rfl) (by kernel_rfl) (by kernel_rfl) (by kernel_rfl) (fun _ _ _ h => h) (Or.inl ⟨by rfl, fun wz hz => by obtain ⟨z0, z1, z2⟩ := hz; go_simp⟩) F0 ?_
  simp only [Act.put, List.setIfInBounds_toArray, List.set_cons_zero, List.set_cons_succ]
  refine AnyT.takeD (i := 11) (d := some 27) (v := .int .i64 0) rfl rfl (by kernel_rfl) (by kernel_rfl) (by kernel_rfl) (by kernel_rfl) (fun _ _ _ h => h) (Or.inl ⟨by rfl, fun wz _ => by go_simp⟩) F0 ?_
  simp only [Act.put, List.setIfInBounds_toArray, List.set_cons_zero, List.set_cons_succ]
  -- TAKEN A1
  refine AnyT.branch (rs := [9]) (by kernel_rfl) (by simp) ?_
  refine all_cons (?_) all_nil
  refine AnyT.enter (i := 9) (d := some 25) (f := 67) (args := #[.int .i64 vx, .int .i64 rv]) rfl rfl rfl (by go_simp) (realBits_any vx rv q0) ?_
  rintro e q1 ⟨zv, rfl, OZ, BZ⟩
  rw [HREAL.out.1, blN_toZ] at OZ
  have B1 := Lib.hid (B0.out.trans (BZ.mono B0.out.size))
  have F1 := HPX.out q1 B1.out
  refine ⟨_, rfl, fun _ => F1, ?_⟩
  obtain ⟨zA, zc, ez, ZR, -, -, -⟩ := OZ.slice
  obtain ⟨Z, hZ⟩ : ∃ Z, Z = blM (cdN v x) (rdN l x) 12 := ⟨_, rfl⟩
  rw [← hZ] at ez ZR
  obtain ⟨zn, hzn⟩ : ∃ zn, zn = (toZ Z).length := ⟨_, rfl⟩
  rw [← hzn] at ez
  subst ez
  have HZ := Lib.hid hZ
  have HZN := Lib.hid (show zn = Z.length by rw [hzn, toZ_len])
  have hzn12 : zn ≤ 12 := by
    have := blN_len (cdN v x) (rdN l x) 12
    rw [blN_toZ, toZ_len, ← hZ, ← HZN.out] at this
    exact this
  have HZR := Lib.hid ZR
  clear F0 OZ ZR BZ hZ hzn
  simp only [Act.put, List.setIfInBounds_toArray, List.set_cons_zero, List.set_cons_succ]
-- TAKES A2
  refine AnyT.takeD (i := 10) (d := some 26) (v := .int .i64 (zn : Int)) rfl rfl (by kernel_rfl) (by kernel_rfl) (by kernel_rfl) (by kernel_rfl) (fun _ _ _ h => h) (Or.inl ⟨by rfl, fun wz _ => by go_simp⟩) F1 ?_
  simp only [Act.put, List.setIfInBounds_toArray, List.set_cons_zero, List.set_cons_succ]
  -- TAKEN A2
  refine AnyT.done_ (by kernel_rfl) ?_ _
  have HM2 := Lib.hid (HM1.out.below B1.out HM1.out.lt)
  have HT2 := Lib.hid (HT1.out.below B1.out)
  have HP2 := Lib.hid (HP1.out.below B1.out)
  have HK2 := Lib.hid (HKP.out q1 (Kp.of_below (F := F) B1.out (fun i hi => (HT1.out.fs i (Or.inl hi)).1)))
  clear F1 HM1 HT1 HP1 HKP B0 B1 HPX HE0 HREAL HRV
  go_wp2_with fail
  go_loopw [27] (fun iv wr => ∃ i : Nat, i ≤ zn ∧ iv = .int .i64 (i : Int) ∧ Hid (∀ j, j < i → Z.getD j 0 < t) ∧ Hid (wr = q1)) (fun iv _ => zn - (intOf iv).toNat)
  case atStart => exact ⟨0, by omega, rfl, Lib.hid (fun j hj => absurd hj (Nat.not_lt_zero _)), Lib.hid rfl⟩
  case round =>
    obtain ⟨i, hi, rfl, FI, HW⟩ := hrel
    have hw := HW.out
    subst hw
    by_cases hlt : i < zn
    · obtain ⟨zad, rfl, zlt, zc1⟩ := HZR.out i (by rw [toZ_len, ← HZN.out]; exact hlt)
      rw [toZ_at Z (by rw [← HZN.out]; exact hlt)] at zc1
      have HZI := Lib.hid (show i < Z.length by rw [← HZN.out]; exact hlt)
      obtain ⟨B, hB⟩ : ∃ B, B = Z.getD i 0 := ⟨_, rfl⟩
      rw [← hB] at zc1
      have HBQ := Lib.hid hB
      clear hB
      have hii : (i : Int) < (zn : Int) := by omega
      by_cases hge : t ≤ B
      · have HD := Lib.hid (show dst S (cdN v x) t = B ∧ B < S by
          rw [HBQ.out, HZ.out]
          rw [HZ.out] at HZI FI HBQ
          exact dst_first hS HCD.out.2.1 HRT.out htS HZI.out (by rw [← HBQ.out]; exact hge) FI.out)
        have hgi : (t : Int) ≤ (B : Int) := by omega
        have hBS := HD.out.2
        have hBi : (B : Int) < (S : Int) := by omega
        obtain ⟨vv, HAT⟩ := HT2.out.at_ (k := B) (by rw [HSL.out]; exact hBS)
        obtain ⟨rA, rc, ev, -, -, -, -⟩ := HAT.own.slice
        obtain ⟨rn, hrn⟩ : ∃ rn, rn = (toZ (st.getD B [])).length := ⟨_, rfl⟩
        rw [← hrn] at ev
        subst ev
        have HRN := Lib.hid hrn
        have HA := Lib.hid HAT
        have HML := Lib.hid (show (toZ (st.getD B [])).length + 1 ≤ 1000000000 by rw [toZ_len]; have := HMB.out B; omega)
        clear hrn HAT hBS
        go_upto_region 5 with fail
        clear zc1
        obtain ⟨q0, e0⟩ : ∃ q, q = wr.drew := ⟨_, rfl⟩
        have HQ0 := Lib.hid (show Below wr.heap.size wr q0 by rw [e0]; exact ⟨rfl, rfl, rfl, Nat.le_refl _, fun _ _ => rfl⟩)
        have F0 : q0.cell? ⟨b, 2, none⟩ = some (.slice (some ⟨gs, 0, none⟩) S S) ∧ q0.cell? ⟨gs, B, none⟩ = some (.slice rA rn rc) := by
          rw [e0]; exact ⟨HM2.out.c2, HA.out.cell⟩
        have HE0 := Lib.hid e0
        clear e0
        refine AnyT.begin_at (tlGe 16) (fun X => X.cell? ⟨b, 2, none⟩ = some (.slice (some ⟨gs, 0, none⟩) S S) ∧ X.cell? ⟨gs, B, none⟩ = some (.slice rA rn rc)) (by kernel_rfl) HE0.out F0 ?_
        clear F0
        intro F0
-- TAKES B1
        refine AnyT.takeD (i := 0) (d := some 34) (v := .pointer (some ⟨b, 0, none⟩)) rfl rfl (by kernel_rfl) (by kernel_rfl) (by kernel_rfl) (by kernel_rfl) (fun _ _ _ h => h) (Or.inl ⟨by rfl, fun wz _ => by go_simp⟩) F0 ?_
        simp only [Act.put, List.setIfInBounds_toArray, List.set_cons_zero, List.set_cons_succ]
        refine AnyT.takeD (i := 1) (d := some 35) (v := .pointer (some ⟨b, 0, none⟩)) rfl rfl (by kernel_rfl) (by kernel_rfl) (by kernel_rfl) (by kernel_rfl) (fun _ _ _ h => h) (Or.inl ⟨by rfl, fun wz _ => by go_simp⟩) F0 ?_
        simp only [Act.put, List.setIfInBounds_toArray, List.set_cons_zero, List.set_cons_succ]
        refine AnyT.takeD (i := 2) (d := some 36) (v := .pointer (some ⟨b, 2, none⟩)) rfl rfl (by kernel_rfl) (by kernel_rfl) (by kernel_rfl) (by kernel_rfl) (fun _ _ _ h => h) (Or.inl ⟨by rfl, fun wz _ => by go_simp⟩) F0 ?_
        simp only [Act.put, List.setIfInBounds_toArray, List.set_cons_zero, List.set_cons_succ]
        refine AnyT.takeD (i := 3) (d := some 37) (v := .slice (some ⟨gs, 0, none⟩) S S) rfl rfl (by kernel_rfl) (by kernel_rfl) (by kernel_rfl) (by kernel_rfl) (fun _ _ _ h => h) (Or.inl ⟨by rfl, fun wz hz => by obtain ⟨z0, z1⟩ := hz; go_simp⟩) F0 ?_
        simp only [Act.put, List.setIfInBounds_toArray, List.set_cons_zero, List.set_cons_succ]
        refine AnyT.takeD (i := 4) (d := some 38) (v := .int .i64 (B : Int)) rfl rfl (by kernel_rfl) (by kernel_rfl) (by kernel_rfl) (by kernel_rfl) (fun _ _ _ h => h) (Or.inl ⟨by rfl, fun wz _ => by go_simp⟩) F0 ?_
        simp only [Act.put, List.setIfInBounds_toArray, List.set_cons_zero, List.set_cons_succ]
        refine AnyT.takeD (i := 5) (d := some 39) (v := .pointer (some ⟨b, 0, none⟩)) rfl rfl (by kernel_rfl) (by kernel_rfl) (by kernel_rfl) (by kernel_rfl) (fun _ _ _ h => h) (Or.inl ⟨by rfl, fun wz _ => by go_simp⟩) F0 ?_
        simp only [Act.put, List.setIfInBounds_toArray, List.set_cons_zero, List.set_cons_succ]
        refine AnyT.takeD (i := 6) (d := some 40) (v := .pointer (some ⟨b, 0, none⟩)) rfl rfl (by kernel_rfl) (by kernel_rfl) (by kernel_rfl) (by kernel_rfl) (fun _ _ _ h => h) (Or.inl ⟨by rfl, fun wz _ => by go_simp⟩) F0 ?_
        simp only [Act.put, List.setIfInBounds_toArray, List.set_cons_zero, List.set_cons_succ]
        refine AnyT.takeD (i := 7) (d := some 41) (v := .pointer (some ⟨b, 2, none⟩)) rfl rfl (by kernel_rfl) (by kernel_rfl) (by kernel_rfl) (by kernel_rfl) (fun _ _ _ h => h) (Or.inl ⟨by rfl, fun wz _ => by go_simp⟩) F0 ?_
        simp only [Act.put, List.setIfInBounds_toArray, List.set_cons_zero, List.set_cons_succ]
        refine AnyT.takeD (i := 8) (d := some 42) (v := .slice (some ⟨gs, 0, none⟩) S S) rfl rfl (by kernel_rfl) (by kernel_rfl) (by kernel_rfl) (by kernel_rfl) (fun _ _ _ h => h) (Or.inl ⟨by rfl, fun wz hz => by obtain ⟨z0, z1⟩ := hz; go_simp⟩) F0 ?_
        simp only [Act.put, List.setIfInBounds_toArray, List.set_cons_zero, List.set_cons_succ]
        refine AnyT.takeD (i := 9) (d := some 43) (v := .int .i64 (B : Int)) rfl rfl (by kernel_rfl) (by kernel_rfl) (by kernel_rfl) (by kernel_rfl) (fun _ _ _ h => h) (Or.inl ⟨by rfl, fun wz _ => by go_simp⟩) F0 ?_
        simp only [Act.put, List.setIfInBounds_toArray, List.set_cons_zero, List.set_cons_succ]
        refine AnyT.takeD (i := 10) (d := some 44) (v := .pointer (some ⟨gs, B, none⟩)) rfl rfl (by kernel_rfl) (by kernel_rfl) (by kernel_rfl) (by kernel_rfl) (fun _ _ _ h => h) (Or.inl ⟨by rfl, fun wz _ => by go_simp⟩) F0 ?_
        simp only [Act.put, List.setIfInBounds_toArray, List.set_cons_zero, List.set_cons_succ]
        refine AnyT.takeD (i := 11) (d := some 45) (v := .slice rA rn rc) rfl rfl (by kernel_rfl) (by kernel_rfl) (by kernel_rfl) (by kernel_rfl) (fun _ _ _ h => h) (Or.inl ⟨by rfl, fun wz hz => by obtain ⟨z0, z1⟩ := hz; go_simp⟩) F0 ?_
        simp only [Act.put, List.setIfInBounds_toArray, List.set_cons_zero, List.set_cons_succ]
        refine AnyT.takeD (i := 12) (d := some 46) (v := .int .i64 (x : Int)) rfl rfl (by kernel_rfl) (by kernel_rfl) (by kernel_rfl) (by kernel_rfl) (fun _ _ _ h => h) (Or.inl ⟨by rfl, fun wz _ => by go_simp⟩) F0 ?_
        simp only [Act.put, List.setIfInBounds_toArray, List.set_cons_zero, List.set_cons_succ]
        -- TAKEN B1
        refine AnyT.branch (rs := [13]) (by kernel_rfl) (by simp) ?_
        refine all_cons (?_) all_nil
        obtain ⟨q1, e1⟩ : ∃ q, q = q0.alloc (.cells #[.int .i64 (x : Int)] 3) := ⟨_, rfl⟩
        have HB1 := Lib.hid (show Below wr.heap.size wr q1 by rw [e1]; exact HQ0.out.alloc HQ0.out.size _)
        have F1 : q1.cell? ⟨b, 2, none⟩ = some (.slice (some ⟨gs, 0, none⟩) S S) ∧ q1.cell? ⟨gs, B, none⟩ = some (.slice rA rn rc) :=
          ⟨(HB1.out.cell (p := ⟨b, 2, none⟩) HM2.out.lt).trans HM2.out.c2, (HB1.out.cell (p := ⟨gs, B, none⟩) HT2.out.lts.1).trans HA.out.cell⟩
        refine AnyT.yield (i := 13) (d := some 47) (v := .slice (some ⟨q0.heap.size, 0, none⟩) 1 1) (w' := q1) rfl rfl rfl (by rw [e1]; go_simp) (fun _ => F1) ?_
        simp only [Act.put, List.setIfInBounds_toArray, List.set_cons_zero, List.set_cons_succ]
        refine AnyT.branch (rs := [14]) (by kernel_rfl) (by simp) ?_
        refine all_cons (?_) all_nil
        refine AnyT.appI (i := 14) (d := some 48) rfl rfl rfl (.tmp 45) (.tmp 47) rfl base (.slice rA rn rc) (toZ (st.getD B [])) rfl (HA.out.own.below HB1.out) (x : Int) q0 e1 _ rfl 1 rfl HML.out (Nat.le_trans HT2.out.lts.2.2 HB1.out.size) ?_
        intro v' q2 AP
        have hag := AP.2.2
        obtain ⟨g', c', rfl, -⟩ := hag
        obtain ⟨y1, y2, y3, y4, y5⟩ := HA.out.app q1 HB1.out x _ q2 AP
        have F2 : q2.cell? ⟨b, 2, none⟩ = some (.slice (some ⟨gs, 0, none⟩) S S) ∧ q2.cell? ⟨gs, B, none⟩ = some (.slice rA rn rc) :=
          ⟨(y4.cell (p := ⟨b, 2, none⟩) (Or.inl HFB.out)).trans HM2.out.c2, y1⟩
        have HY := Lib.hid (And.intro (y3.weak (G := F) (fun _ h => Or.inl h)) (y5.weak (G := F) (fun _ h => Or.inl h)))
        have HFZ := Lib.hid y2
        clear AP y1 y2 y3 y4 y5 F1 F0 e1
        refine ⟨fun _ => F2, ?_⟩
        generalize (toZ (st.getD B [])).length + 1 = nn at *
        simp only [Act.put, List.setIfInBounds_toArray, List.set_cons_zero, List.set_cons_succ]
-- TAKES B2
        refine AnyT.takeD (i := 15) (d := some 49) (v := .pointer (some ⟨gs, B, none⟩)) rfl rfl (by kernel_rfl) (by kernel_rfl) (by kernel_rfl) (by kernel_rfl) (fun _ _ _ h => h) (Or.inl ⟨by rfl, fun wz _ => by go_simp⟩) F2 ?_
        simp only [Act.put, List.setIfInBounds_toArray, List.set_cons_zero, List.set_cons_succ]
        -- TAKEN B2
        refine AnyT.branch (rs := [16]) (by kernel_rfl) (by simp) ?_
        refine all_cons (?_) all_nil
        refine AnyT.step (i := 16) rfl (fun KK hK => ?_)
        obtain ⟨z0, z1⟩ := F2
        have z2 := HFZ.out
        go_simp
        refine hK.out _ _ (fun h => absurd h (by decide)) ?_
        clear hK KK z0 z1 z2 HFZ
        refine AnyT.done_ (by kernel_rfl) ?_ _
        have HFIN := Lib.hid (show putS S (cdN v) t st x = st.set B (st.getD B [] ++ [x]) ∧ putT S (cdN v) (tnN l) t tr x = tr by
          unfold putS putT
          rw [if_pos (by rw [HD.out.1]; exact HD.out.2), if_pos (by rw [HD.out.1]; exact HD.out.2), HD.out.1]
          exact ⟨rfl, rfl⟩)
        clear HA HE0 HQ0 HB1
        go_wp2_with fail
        refine bodyPost_ret (results_none rfl _ _ _) rfl ?_
        rw [HFIN.out.1, HFIN.out.2]
        exact ⟨rfl, HY.out.1, HK2.out.trans HY.out.2⟩
      · have hgi : ¬ (t : Int) ≤ (B : Int) := by omega
        have FI2 := Lib.hid (show ∀ j, j < i + 1 → Z.getD j 0 < t from fun j hj => by
          rcases Nat.lt_or_ge j i with g | g
          · exact FI.out j g
          · obtain rfl : j = i := by omega
            rw [← HBQ.out]; omega)
        go_wp2_with fail
        go_roundw
        case rel => exact ⟨i + 1, by omega, by go_num, FI2, Lib.hid trivial⟩
        case measure => simp [intOf]; omega
    · have hiz : i = zn := by omega
      subst hiz
      have HD := Lib.hid (show dst S (cdN v x) t = S by
        rw [HZ.out] at FI HZN
        exact dst_last hS HRT.out htS (fun j hj => FI.out j (by rw [HZN.out]; exact hj)))
      obtain ⟨B, hB⟩ : ∃ B, B = tnN l x := ⟨_, rfl⟩
      have HBQ := Lib.hid hB
      have hBT : B < T := by rw [HTT.out, hB]; exact HTN.out
      have hBi : (B : Int) < (T : Int) := by omega
      have hBl : B < tr.length := by rw [HTL.out]; exact hBT
      have htv : tv = (B : Int) := by rw [HTV.out, hB]
      subst htv
      obtain ⟨vv, HAT⟩ := HT2.out.symm.at_ (k := B) hBl
      obtain ⟨rA, rc, ev, -, -, -, -⟩ := HAT.own.slice
      obtain ⟨rn, hrn⟩ : ∃ rn, rn = (toZ (tr.getD B [])).length := ⟨_, rfl⟩
      rw [← hrn] at ev
      subst ev
      have HRN := Lib.hid hrn
      have HA := Lib.hid HAT
      have HML := Lib.hid (show (toZ (tr.getD B [])).length + 1 ≤ 1000000000 by rw [toZ_len]; have := HMB2.out B; omega)
      have hni : ¬ (i : Int) < (i : Int) := by omega
      clear hrn HAT hBl hB hlt hi
      go_upto_region 7 with fail
      clear hni
      obtain ⟨q0, e0⟩ : ∃ q, q = wr.drew := ⟨_, rfl⟩
      have HQ0 := Lib.hid (show Below wr.heap.size wr q0 by rw [e0]; exact ⟨rfl, rfl, rfl, Nat.le_refl _, fun _ _ => rfl⟩)
      have F0 : q0.cell? ⟨b, 3, none⟩ = some (.slice (some ⟨gt, 0, none⟩) T T) ∧ q0.cell? ⟨gt, B, none⟩ = some (.slice rA rn rc) ∧ q0.cell? ⟨ib, 0, none⟩ = some (.int .i64 (B : Int)) := by
        rw [e0]; exact ⟨HM2.out.c3, HA.out.cell, HP2.out.c0⟩
      have HE0 := Lib.hid e0
      clear e0
      refine AnyT.begin_at (tlGe 18) (fun X => X.cell? ⟨b, 3, none⟩ = some (.slice (some ⟨gt, 0, none⟩) T T) ∧ X.cell? ⟨gt, B, none⟩ = some (.slice rA rn rc) ∧ X.cell? ⟨ib, 0, none⟩ = some (.int .i64 (B : Int))) (by kernel_rfl) HE0.out F0 ?_
      clear F0
      intro F0
-- TAKES C1
      refine AnyT.takeD (i := 0) (d := some 51) (v := .pointer (some ⟨b, 0, none⟩)) rfl rfl (by kernel_rfl) (by kernel_rfl) (by kernel_rfl) (by kernel_rfl) (fun _ _ _ h => h) (Or.inl ⟨by rfl, fun wz _ => by go_simp⟩) F0 ?_
      simp only [Act.put, List.setIfInBounds_toArray, List.set_cons_zero, List.set_cons_succ]
      refine AnyT.takeD (i := 1) (d := some 52) (v := .pointer (some ⟨b, 0, none⟩)) rfl rfl (by kernel_rfl) (by kernel_rfl) (by kernel_rfl) (by kernel_rfl) (fun _ _ _ h => h) (Or.inl ⟨by rfl, fun wz _ => by go_simp⟩) F0 ?_
      simp only [Act.put, List.setIfInBounds_toArray, List.set_cons_zero, List.set_cons_succ]
      refine AnyT.takeD (i := 2) (d := some 53) (v := .pointer (some ⟨b, 3, none⟩)) rfl rfl (by kernel_rfl) (by kernel_rfl) (by kernel_rfl) (by kernel_rfl) (fun _ _ _ h => h) (Or.inl ⟨by rfl, fun wz _ => by go_simp⟩) F0 ?_
      simp only [Act.put, List.setIfInBounds_toArray, List.set_cons_zero, List.set_cons_succ]
      refine AnyT.takeD (i := 3) (d := some 54) (v := .slice (some ⟨gt, 0, none⟩) T T) rfl rfl (by kernel_rfl) (by kernel_rfl) (by kernel_rfl) (by kernel_rfl) (fun _ _ _ h => h) (Or.inl ⟨by rfl, fun wz hz => by obtain ⟨z0, z1, z2⟩ := hz; go_simp⟩) F0 ?_
      simp only [Act.put, List.setIfInBounds_toArray, List.set_cons_zero, List.set_cons_succ]
      refine AnyT.takeD (i := 4) (d := some 55) (v := .pointer (some ⟨ib, 0, none⟩)) rfl rfl (by kernel_rfl) (by kernel_rfl) (by kernel_rfl) (by kernel_rfl) (fun _ _ _ h => h) (Or.inl ⟨by rfl, fun wz _ => by go_simp⟩) F0 ?_
      simp only [Act.put, List.setIfInBounds_toArray, List.set_cons_zero, List.set_cons_succ]
      refine AnyT.takeD (i := 5) (d := some 56) (v := .int .i64 (B : Int)) rfl rfl (by kernel_rfl) (by kernel_rfl) (by kernel_rfl) (by kernel_rfl) (fun _ _ _ h => h) (Or.inl ⟨by rfl, fun wz hz => by obtain ⟨z0, z1, z2⟩ := hz; go_simp⟩) F0 ?_
      simp only [Act.put, List.setIfInBounds_toArray, List.set_cons_zero, List.set_cons_succ]
      refine AnyT.takeD (i := 6) (d := some 57) (v := .pointer (some ⟨b, 0, none⟩)) rfl rfl (by kernel_rfl) (by kernel_rfl) (by kernel_rfl) (by kernel_rfl) (fun _ _ _ h => h) (Or.inl ⟨by rfl, fun wz _ => by go_simp⟩) F0 ?_
      simp only [Act.put, List.setIfInBounds_toArray, List.set_cons_zero, List.set_cons_succ]
      refine AnyT.takeD (i := 7) (d := some 58) (v := .pointer (some ⟨b, 0, none⟩)) rfl rfl (by kernel_rfl) (by kernel_rfl) (by kernel_rfl) (by kernel_rfl) (fun _ _ _ h => h) (Or.inl ⟨by rfl, fun wz _ => by go_simp⟩) F0 ?_
      simp only [Act.put, List.setIfInBounds_toArray, List.set_cons_zero, List.set_cons_succ]
      refine AnyT.takeD (i := 8) (d := some 59) (v := .pointer (some ⟨b, 3, none⟩)) rfl rfl (by kernel_rfl) (by kernel_rfl) (by kernel_rfl) (by kernel_rfl) (fun _ _ _ h => h) (Or.inl ⟨by rfl, fun wz _ => by go_simp⟩) F0 ?_
      simp only [Act.put, List.setIfInBounds_toArray, List.set_cons_zero, List.set_cons_succ]
      refine AnyT.takeD (i := 9) (d := some 60) (v := .slice (some ⟨gt, 0, none⟩) T T) rfl rfl (by kernel_rfl) (by kernel_rfl) (by kernel_rfl) (by kernel_rfl) (fun _ _ _ h => h) (Or.inl ⟨by rfl, fun wz hz => by obtain ⟨z0, z1, z2⟩ := hz; go_simp⟩) F0 ?_
      simp only [Act.put, List.setIfInBounds_toArray, List.set_cons_zero, List.set_cons_succ]
      refine AnyT.takeD (i := 10) (d := some 61) (v := .pointer (some ⟨ib, 0, none⟩)) rfl rfl (by kernel_rfl) (by kernel_rfl) (by kernel_rfl) (by kernel_rfl) (fun _ _ _ h => h) (Or.inl ⟨by rfl, fun wz _ => by go_simp⟩) F0 ?_
      simp only [Act.put, List.setIfInBounds_toArray, List.set_cons_zero, List.set_cons_succ]
      refine AnyT.takeD (i := 11) (d := some 62) (v := .int .i64 (B : Int)) rfl rfl (by kernel_rfl) (by kernel_rfl) (by kernel_rfl) (by kernel_rfl) (fun _ _ _ h => h) (Or.inl ⟨by rfl, fun wz hz => by obtain ⟨z0, z1, z2⟩ := hz; go_simp⟩) F0 ?_
      simp only [Act.put, List.setIfInBounds_toArray, List.set_cons_zero, List.set_cons_succ]
      refine AnyT.takeD (i := 12) (d := some 63) (v := .pointer (some ⟨gt, B, none⟩)) rfl rfl (by kernel_rfl) (by kernel_rfl) (by kernel_rfl) (by kernel_rfl) (fun _ _ _ h => h) (Or.inl ⟨by rfl, fun wz _ => by go_simp⟩) F0 ?_
      simp only [Act.put, List.setIfInBounds_toArray, List.set_cons_zero, List.set_cons_succ]
      refine AnyT.takeD (i := 13) (d := some 64) (v := .slice rA rn rc) rfl rfl (by kernel_rfl) (by kernel_rfl) (by kernel_rfl) (by kernel_rfl) (fun _ _ _ h => h) (Or.inl ⟨by rfl, fun wz hz => by obtain ⟨z0, z1, z2⟩ := hz; go_simp⟩) F0 ?_
      simp only [Act.put, List.setIfInBounds_toArray, List.set_cons_zero, List.set_cons_succ]
      refine AnyT.takeD (i := 14) (d := some 65) (v := .int .i64 (x : Int)) rfl rfl (by kernel_rfl) (by kernel_rfl) (by kernel_rfl) (by kernel_rfl) (fun _ _ _ h => h) (Or.inl ⟨by rfl, fun wz _ => by go_simp⟩) F0 ?_
      simp only [Act.put, List.setIfInBounds_toArray, List.set_cons_zero, List.set_cons_succ]
      -- TAKEN C1
      refine AnyT.branch (rs := [15]) (by kernel_rfl) (by simp) ?_
      refine all_cons (?_) all_nil
      obtain ⟨q1, e1⟩ : ∃ q, q = q0.alloc (.cells #[.int .i64 (x : Int)] 3) := ⟨_, rfl⟩
      have HB1 := Lib.hid (show Below wr.heap.size wr q1 by rw [e1]; exact HQ0.out.alloc HQ0.out.size _)
      have F1 : q1.cell? ⟨b, 3, none⟩ = some (.slice (some ⟨gt, 0, none⟩) T T) ∧ q1.cell? ⟨gt, B, none⟩ = some (.slice rA rn rc) ∧ q1.cell? ⟨ib, 0, none⟩ = some (.int .i64 (B : Int)) :=
        ⟨(HB1.out.cell (p := ⟨b, 3, none⟩) HM2.out.lt).trans HM2.out.c3, (HB1.out.cell (p := ⟨gt, B, none⟩) HT2.out.ltt.1).trans HA.out.cell, (HB1.out.cell (p := ⟨ib, 0, none⟩) HP2.out.lt).trans HP2.out.c0⟩
      refine AnyT.yield (i := 15) (d := some 66) (v := .slice (some ⟨q0.heap.size, 0, none⟩) 1 1) (w' := q1) rfl rfl rfl (by rw [e1]; go_simp) (fun _ => F1) ?_
      simp only [Act.put, List.setIfInBounds_toArray, List.set_cons_zero, List.set_cons_succ]
      refine AnyT.branch (rs := [16]) (by kernel_rfl) (by simp) ?_
      refine all_cons (?_) all_nil
      refine AnyT.appI (i := 16) (d := some 67) rfl rfl rfl (.tmp 64) (.tmp 66) rfl base (.slice rA rn rc) (toZ (tr.getD B [])) rfl (HA.out.own.below HB1.out) (x : Int) q0 e1 _ rfl 1 rfl HML.out (Nat.le_trans HT2.out.lts.2.2 HB1.out.size) ?_
      intro v' q2 AP
      have hag := AP.2.2
      obtain ⟨g', c', rfl, -⟩ := hag
      obtain ⟨y1, y2, y3, y4, y5⟩ := HA.out.app q1 HB1.out x _ q2 AP
      have F2 : q2.cell? ⟨b, 3, none⟩ = some (.slice (some ⟨gt, 0, none⟩) T T) ∧ q2.cell? ⟨gt, B, none⟩ = some (.slice rA rn rc) ∧ q2.cell? ⟨ib, 0, none⟩ = some (.int .i64 (B : Int)) :=
        ⟨(y4.cell (p := ⟨b, 3, none⟩) (Or.inl HFB.out)).trans HM2.out.c3, y1, (y4.cell (p := ⟨ib, 0, none⟩) (Or.inr rfl)).trans HP2.out.c0⟩
      have HY := Lib.hid (And.intro (y3.symm.weak (G := F) (fun _ h => Or.inl h)) (y5.weak (G := F) (fun _ h => Or.inl h)))
      have HFZ := Lib.hid y2
      clear AP y1 y2 y3 y4 y5 F1 F0 e1
      refine ⟨fun _ => F2, ?_⟩
      generalize (toZ (tr.getD B [])).length + 1 = nn at *
      simp only [Act.put, List.setIfInBounds_toArray, List.set_cons_zero, List.set_cons_succ]
-- TAKES C2
      refine AnyT.takeD (i := 17) (d := some 68) (v := .pointer (some ⟨gt, B, none⟩)) rfl rfl (by kernel_rfl) (by kernel_rfl) (by kernel_rfl) (by kernel_rfl) (fun _ _ _ h => h) (Or.inl ⟨by rfl, fun wz _ => by go_simp⟩) F2 ?_
      simp only [Act.put, List.setIfInBounds_toArray, List.set_cons_zero, List.set_cons_succ]
      -- TAKEN C2
      refine AnyT.branch (rs := [18]) (by kernel_rfl) (by simp) ?_
      refine all_cons (?_) all_nil
      refine AnyT.step (i := 18) rfl (fun KK hK => ?_)
      obtain ⟨z0, z1, z3⟩ := F2
      have z2 := HFZ.out
      go_simp
      refine hK.out _ _ (fun h => absurd h (by decide)) ?_
      clear hK KK z0 z1 z2 z3 HFZ
      refine AnyT.done_ (by kernel_rfl) ?_ _
      have HFIN := Lib.hid (show putS S (cdN v) t st x = st ∧ putT S (cdN v) (tnN l) t tr x = tr.set B (tr.getD B [] ++ [x]) by
        unfold putS putT
        rw [if_neg (by rw [HD.out]; exact Nat.lt_irrefl _), if_neg (by rw [HD.out]; exact Nat.lt_irrefl _), ← HBQ.out]
        exact ⟨rfl, rfl⟩)
      clear HA HE0 HQ0 HB1
      go_wp2_with fail
      go_end0
      rw [HFIN.out.1, HFIN.out.2]
      exact ⟨rfl, HY.out.1, HK2.out.trans HY.out.2⟩
end Go.Proofs.YtimkmieohkefiaaGreat

namespace Go.Proofs.YtimkmieohkefiaaGreat
open Go.RowKit Go.Lib

set_option maxRecDepth 100000 in
set_option maxHeartbeats 1600000 in
/-- A copy of a list. -/
theorem clone_any (zs : List Int) (A : Option Addr) (n c : Nat) (w : World) (h : Row .i64 w w.heap.size A zs) (hn : n = zs.length) (hA : A = none → n = 0 ∧ c = 0) (hl : n ≤ 1000000) :
    Calls Tryz.prog 169 #[.slice A n c] w fun e w' => ∃ v, e = .returned v ∧ Own .i64 3 w' w.heap.size v zs ∧ Below w.heap.size w w' := by
  cases A with
  | none =>
    obtain ⟨rfl, rfl⟩ := hA rfl
    have hz : zs = [] := List.length_eq_zero_iff.1 hn.symm
    subst hz
    clear h hn hA hl
    have hq : ∀ w, (binOp .eql 22 (.slice none 0 0) (.slice none 0 0)).run Tryz.prog w = .ok (.bool true) w := fun w => Go.Lib.run_eql_slice_nil w _ _ none 0 0 0 0 Tryz.underlying22
    go_enter Tryz.func169, Tryz.ntmps169
    go_wp2_with fail
    go_ret
    exact ⟨_, rfl, Own.nil, Below.refl _ _⟩
  | some ad =>
    have H := Lib.hid (h.below ((Below.refl w.heap.size w).alloc (Nat.le_refl _) (.cells #[] 3)))
    have HN := Lib.hid hn
    have HMX := Lib.hid (show 0 + n ≤ maxLen by unfold maxLen; omega)
    clear h hn hA
    obtain ⟨i0, hi, hz0, hz1, hz2⟩ := info_parts infoIntW
    have HI := Lib.hid (And.intro hi (And.intro hz0 (And.intro hz1 hz2)))
    clear hi hz0 hz1 hz2
    have hq : ∀ w, (binOp .eql 22 (.slice (some ad) n c) (.slice none 0 0)).run Tryz.prog w = .ok (.bool false) w := fun w => Go.Lib.run_eql_slice_nil w _ _ (some ad) n c 0 0 Tryz.underlying22
    go_enter Tryz.func169, Tryz.ntmps169
    go_wp2_with (first
      | (at_builtin; refine wpList_app_src rfl (.tmp 5) (.tmp 6) 22 rfl w.heap.size 3 i0 (.int .i64 0) 1 8 Tryz.underlying22 HI.out.1 HI.out.2.1 HI.out.2.2.1 HI.out.2.2.2 rfl (by decide) _ 0 [] rfl (own_empty (Nat.le_refl _)) (some ad) n c (zs.map (Value.int .i64)) rfl (fun e => by cases e) (by rw [List.length_map, ← HN.out, Nat.mul_one]) (Row.newsO H.out) (one_cells (ys := zs)) HMX.out (by omega) (by simp) ?_; intro v6 w6 hown6 hg6; have S6 := Lib.hid (show Below w.heap.size w w6 from ((Below.refl _ _).alloc (Nat.le_refl _) _).grown hg6 (by simp) (fun g hg => Nat.le_of_eq (Option.some.inj (show some w.heap.size = some g from hg)))); have W6 := Lib.hid hown6; clear hown6 hg6))
    have O6 : Own .i64 3 w6 w.heap.size v6 zs := by
      have := W6.out
      rw [List.nil_append, Nat.zero_add, HN.out] at this
      exact this
    obtain ⟨oA, oc, ev, -⟩ := O6.slice
    have HO := Lib.hid O6
    obtain ⟨on, hon⟩ : ∃ on, on = zs.length := ⟨_, rfl⟩
    rw [← hon] at ev
    subst ev
    clear O6 W6 hon
    go_wp2_with fail
    go_ret
    exact ⟨_, rfl, HO.out, S6.out⟩
/-- A list that grows, whose block none of the lists owns. -/
theorem Two.grow {F : Nat → Prop} {W w' : World} {gs gt base base0 : Nat} {st tr : List (List Nat)} {v v' : Value} {zs : List Int} {y : Int} (h : Two (fun k => F k ∨ v.ownBlock = some k) W gs gt base st tr) (A : AppI base0 v zs y W v' w') (hF : ∀ k, F k → v.ownBlock ≠ some k) :
    Two (fun k => F k ∨ v'.ownBlock = some k) w' gs gt base st tr ∧ Kp F W w' ∧ ∀ k, F k → v'.ownBlock ≠ some k := by
  obtain ⟨O', hg, g', c, rfl, hlt, hat⟩ := A
  have hfr : ∀ k, F k → k < W.heap.size := fun k hk => (h.fs k (Or.inl hk)).1
  have nk : ∀ j, F j → j ≠ g' := fun j hj e => by
    subst e
    rcases hat with e2 | e2
    · exact hF j hj e2
    · have := hfr j hj; omega
  obtain ⟨⟨vs, vt, h1, h2, h3, h4, h5⟩, h6, h7⟩ := h
  have hol : ∀ (g : Nat) us ts, OL W g base us ts → v.ownBlock ≠ some g → (∀ (i : Nat) u, us[i]? = some u → ∀ k, v.ownBlock = some k → u.ownBlock ≠ some k) → OL w' g base us ts := fun g us ts o hne hap =>
    ⟨(hg.block g o.lt (fun e => hne e.symm)).trans o.blk, o.len, fun k u t hu ht => (o.own k u t hu ht).kept hg (by
      cases hq : u.ownBlock with
      | none => exact Or.inl rfl
      | some q => exact Or.inr (fun e => hap k u hu q e.symm hq)), o.apt, o.gb, Nat.le_trans o.le hg.size⟩
  have hg5 : ∀ (g : Nat) us ts, OL W g base us ts → (∀ (i : Nat) u, us[i]? = some u → ∀ k, v.ownBlock = some k → u.ownBlock ≠ some k) → ∀ (i : Nat) u, us[i]? = some u → u.ownBlock ≠ some g' := fun g us ts o hap i u hu e => by
    rcases hat with e2 | e2
    · exact hap i u hu g' e2 e
    · have hil : i < ts.length := by rw [← o.len]; exact (List.getElem?_eq_some_iff.1 hu).1
      have := (own_block (o.own i u _ hu (List.getElem?_eq_getElem hil)) e).2
      omega
  have a1 : v.ownBlock ≠ some gs := fun e => (h7 gs (Or.inr e)).2.1 rfl
  have a2 : v.ownBlock ≠ some gt := fun e => (h7 gt (Or.inr e)).2.2 rfl
  refine ⟨⟨⟨vs, vt, hol gs vs _ h1 a1 (fun i u hu k hk => h4 k (Or.inr hk) i u hu), hol gt vt _ h2 a2 (fun i u hu k hk => h5 k (Or.inr hk) i u hu), h3, fun k hk => ?_, fun k hk => ?_⟩, h6, fun k hk => ?_⟩, ⟨hg.os, hg.tape, hg.output, hg.size, fun j hj => hg.block j (hfr j hj) (fun e => hF j hj e.symm)⟩, fun k hk e => ?_⟩
  · rcases hk with hk | hk
    · exact h4 k (Or.inl hk)
    · obtain rfl : g' = k := by simpa [Value.ownBlock] using hk
      exact hg5 gs vs _ h1 (fun i u hu k hk => h4 k (Or.inr hk) i u hu)
  · rcases hk with hk | hk
    · exact h5 k (Or.inl hk)
    · obtain rfl : g' = k := by simpa [Value.ownBlock] using hk
      exact hg5 gt vt _ h2 (fun i u hu k hk => h5 k (Or.inr hk) i u hu)
  · rcases hk with hk | hk
    · exact ⟨Nat.lt_of_lt_of_le (hfr k hk) hg.size, (h7 k (Or.inl hk)).2⟩
    · obtain rfl : g' = k := by simpa [Value.ownBlock] using hk
      refine ⟨hlt, ?_⟩
      rcases hat with e2 | e2
      · exact (h7 g' (Or.inr e2)).2
      · have := h1.lt; have := h2.lt; omega
  · exact nk k hk (by have : g' = k := by simpa [Value.ownBlock] using e
                      exact this.symm)
theorem Own.kp {k : IntKind} {T : TypeId} {F : Nat → Prop} {w w' : World} {base : Nat} {v : Value} {zs : List Int} (h : Own k T w base v zs) (b : Kp F w w') (hv : ∀ g, v.ownBlock = some g → F g) : Own k T w' base v zs := by
  refine ⟨h.1, ?_⟩
  rcases h.2 with g | ⟨g, cap, cur, e1, e2, e3, e4⟩
  · exact Or.inl g
  · exact Or.inr ⟨g, cap, cur, e1, e2, (b.block g (hv g (by rw [e1]; rfl))).trans e3, e4⟩
theorem comeL_app (L : Nat) (rd : Nat → Nat) (t : Nat) : comeL (L + 1) rd t = if rd L = t then comeL L rd t ++ [L] else comeL L rd t := by
  unfold comeL
  rw [List.range_succ, List.filter_append]
  by_cases e : rd L = t
  · rw [if_pos e]; simp [e]
  · rw [if_neg e]; simp [e]
theorem comeL_len (L : Nat) (rd : Nat → Nat) (t : Nat) : (comeL L rd t).length ≤ L := by
  unfold comeL
  have := List.length_filter_le (fun x => rd x == t) (List.range L)
  simpa using this
set_option maxRecDepth 100000 in
set_option maxHeartbeats 3200000 in
theorem take_any (F : Nat → Prop) (l : List It) (wt : Int) (S : Nat) (v : List Int) (hpl : Pl l wt S v) (A : Option Addr) (c L : Nat) (hL : L = l.length) (pA : Option Addr) (n pc gs gt T base b t B : Nat) (mv pu : Int) (st tr : List (List Nat)) (w : World)
    (hBF : ∀ k, k < B → F k) (h : Row .i64 w B A (flatI l)) (HM : MB w b A L c pA n pc gs S gt T mv pu) (HT : Two F w gs gt base st tr) (hFb : F b) (hst : st.length = S) (htS : t ≤ S) (hb1 : ∀ k, (st.getD k []).length ≤ 1000) :
    Calls Tryz.prog 147 #[.pointer (some ⟨b, 0, none⟩), .int .i64 (t : Int)] w fun e w' => ∃ u, e = .returned u ∧ Own .i64 3 w' w.heap.size u (toZ (qAt l.length (rdN l) st t)) ∧
      Two (fun k => F k ∨ u.ownBlock = some k) w' gs gt base (cutS st t) tr ∧ Kp F w w' ∧ ∀ k, F k → u.ownBlock ≠ some k := by
  have hS := hpl.s12
  have hL96 : L ≤ 96 := by rw [hL]; exact hpl.l96
  have HBF := Lib.hid hBF
  have H := Lib.hid h
  have HL := Lib.hid hL
  have HPL := Lib.hid hpl
  have HFB := Lib.hid hFb
  have HSL := Lib.hid hst
  have HMM := Lib.hid HM
  have HTT := Lib.hid HT
  by_cases h0 : t = 0
  · subst h0
    have hni : ¬ (0 : Int) < ((0 : Nat) : Int) := by omega
    have hni2 : ¬ (0 : Int) < 0 := by omega
    obtain ⟨m0, m1, m2, m3, m4, m5, mf, mlt⟩ := HM
    have Z0 := Lib.hid (show Two (fun k => F k ∨ (Value.slice none 0 0).ownBlock = some k) w gs gt base (cutS st 0) tr from HT.weak (fun i hi => by
      rcases hi with hi | hi
      · exact hi
      · cases hi))
    clear h hL hpl hst hFb hBF HT mf hb1
    go_enter Tryz.func147, Tryz.ntmps147
    go_wp2_with fail
    clear m0 m1 m2 m3 m4 m5 mlt hni hni2
    go_loopw [5, 31] (fun uv iv wr => ∃ k : Nat, k ≤ L ∧ iv = .int .i64 (k : Int) ∧ ∃ uA un uc, uv = .slice uA un uc ∧ Hid (Own .i64 3 wr w.heap.size (.slice uA un uc) (toZ (comeL k (rdN l) 0))) ∧ Hid (Two (fun k => F k ∨ (Value.slice uA un uc).ownBlock = some k) wr gs gt base (cutS st 0) tr) ∧ Hid (Kp F w wr) ∧ Hid (∀ k, F k → (Value.slice uA un uc).ownBlock ≠ some k)) (fun _ iv _ => L - (intOf iv).toNat)
    case atStart => exact ⟨0, by omega, rfl, none, 0, 0, rfl, Lib.hid Own.nil, Z0, Lib.hid (Kp.refl _ _), Lib.hid (fun k _ e => by cases e)⟩
    case round =>
      clear Z0
      obtain ⟨k, hk, rfl, uA, un, uc, rfl, O, Z, K, N⟩ := hrel
      have HR := Lib.hid (show IRow wr A l from ⟨(H.out.under (K.out.below HBF.out)).more (by
        rcases Nat.lt_or_ge wr.heap.size B with g | g
        · have := (HTT.out.fs wr.heap.size (HBF.out _ g)).1; have := K.out.size; omega
        · exact g), by have := HL.out; unfold maxLen; omega⟩)
      by_cases hlt : k < L
      · have hkl : k < l.length := by rw [← HL.out]; exact hlt
        obtain ⟨aA, rfl, CE⟩ := HR.out.at_ k hkl
        obtain ⟨c0, c1, c2, c3⟩ := CE.spelt
        have hki : (k : Int) < (L : Int) := by omega
        obtain ⟨⟨tv, bv, rv, lv⟩, hp4⟩ : ∃ p, p = l.getD k it0 := ⟨_, rfl⟩
        have hrv : rv = (rdN l k : Int) := by
          have := (HPL.out.rd hkl).1
          rw [← this]; unfold rnd; rw [← hp4]
        rw [← hp4] at c0 c1 c2 c3
        obtain ⟨R, hR⟩ : ∃ R, R = rdN l k := ⟨_, rfl⟩
        have HRQ := Lib.hid hR
        rw [← hR] at hrv
        clear hp4 hR
        subst hrv
        have BX := (Below.refl wr.heap.size wr).alloc (Nat.le_refl _) (.cells #[.int .i64 tv, .int .i64 bv, .int .i64 (R : Int), .int .i64 lv] 52)
        have P1 := IPl.new (w := wr) (p := (tv, bv, (R : Int), lv)) (T := 52) wr.heap.size rfl
        have O1 := Lib.hid (O.out.below BX)
        have Z1 := Lib.hid (Z.out.below BX)
        have K1 := Lib.hid (K.out.trans (Kp.of_below (F := F) BX (fun i hi => (Z.out.fs i (Or.inl hi)).1)))
        have hll := comeL_len k (rdN l) 0
        clear CE O Z K
        obtain ⟨q, hq⟩ : ∃ q, q = wr.heap.size := ⟨_, rfl⟩
        go_upto_region 8 with fail
        clear c0 c1 c2 c3
        rw [← hq] at P1 ⊢
        generalize wr.alloc (.cells #[.int .i64 tv, .int .i64 bv, .int .i64 (R : Int), .int .i64 lv] 52) = w1 at *
        clear hq BX
        obtain ⟨p0, p1, p2, p3, plt⟩ := P1
        by_cases e : R = 0
        · have HST := Lib.hid (show comeL (k + 1) (rdN l) 0 = comeL k (rdN l) 0 ++ [k] by rw [comeL_app, if_pos (by rw [← HRQ.out]; exact e)])
          have hre : ((R : Int) == 0) = true := by simp [e]
          have HS2 := Lib.hid (show w.heap.size ≤ w1.heap.size from K1.out.size)
          have HLN := Lib.hid (show (toZ (comeL k (rdN l) 0)).length + 1 ≤ 1000000000 by rw [toZ_len]; omega)
          clear e
          go_wp2_with (first | (at_builtin; refine wpList_appI _ rfl (.tmp 40) (.tmp 42) rfl w.heap.size _ (toZ (comeL k (rdN l) 0)) rfl (O1.out.alloc _) (k : Int) w1 rfl _ rfl 1 rfl HLN.out (le_allocW HS2.out) ?_; intro v6 w6 AP; have ZZ := Lib.hid ((Z1.out.below ((Below.refl _ _).alloc (Nat.le_refl _) _)).grow AP N.out); have OO := Lib.hid AP.1; have KW := Lib.hid (K1.out.trans (Kp.of_below (F := F) ((Below.refl w1.heap.size w1).alloc (Nat.le_refl _) (.cells #[.int .i64 (k : Int)] 3)) (fun i hi => (Z1.out.fs i (Or.inl hi)).1))); have hag := AP.2.2; obtain ⟨g6, c6, rfl, -, -⟩ := hag; clear AP))
          clear p0 p1 p2 p3 O1 Z1 K1 N hre
          go_roundw
          case rel => exact ⟨k + 1, by omega, by go_num, _, _, _, rfl, Lib.hid (by rw [HST.out, toZ_app]; exact OO.out), Lib.hid ZZ.out.1, Lib.hid (KW.out.trans ZZ.out.2.1), Lib.hid ZZ.out.2.2⟩
          case measure => simp [intOf]; omega
        · have HST := Lib.hid (show comeL (k + 1) (rdN l) 0 = comeL k (rdN l) 0 by rw [comeL_app, if_neg (by rw [← HRQ.out]; exact e)])
          have hre : ((R : Int) == 0) = false := by simp; omega
          clear e
          go_wp2_with fail
          clear p0 p1 p2 p3 hre
          go_roundw
          case rel => exact ⟨k + 1, by omega, by go_num, _, _, _, rfl, Lib.hid (by rw [HST.out]; exact O1.out), Z1, K1, N⟩
          case measure => simp [intOf]; omega
      · obtain rfl : k = L := by omega
        go_wp2_with fail
        go_ret
        exact ⟨_, rfl, by have := O.out; rw [HL.out] at this; exact this, Z.out, K.out, N.out⟩
  · obtain ⟨d, rfl⟩ : ∃ d, t = d + 1 := ⟨t - 1, by omega⟩
    have hdS : d < S := by omega
    have hpi : (0 : Int) < ((d + 1 : Nat) : Int) := by omega
    have hpi' : (0 : Int) < (d : Int) + 1 := by omega
    have hdi : (d : Int) < (S : Int) := by omega
    obtain ⟨vv, HAT⟩ := HT.at_ (k := d) (by rw [hst]; exact hdS)
    obtain ⟨rA, rc, ev, RR, hrc, -, hrg⟩ := HAT.own.slice
    obtain ⟨rn, hrn⟩ : ∃ rn, rn = (toZ (st.getD d [])).length := ⟨_, rfl⟩
    have hcell := HAT.cell
    have hown := HAT.own
    rw [← hrn] at ev hrc hrg
    subst ev
    have hrn2 : rn ≤ 1000 := by rw [hrn, toZ_len]; exact hb1 d
    have HCL := Lib.hid (fun (W : World) (k : Row .i64 W W.heap.size rA (toZ (st.getD d []))) (hA : rA = none → rn = 0 ∧ rc = 0) => clone_any (toZ (st.getD d [])) rA rn rc W k hrn hA (by omega))
    have HNA := Lib.hid (show rA = none → rn = 0 ∧ rc = 0 from fun e => by
      subst e
      rcases hown.2 with ⟨e1, _⟩ | ⟨g, cap, cur, e1, _⟩
      · injection e1 with _ e2 e3; exact ⟨e2, e3⟩
      · injection e1 with e1; cases e1)
    have HRR := Lib.hid RR
    have HDS := Lib.hid hdS
    have HSD := Lib.hid (hb1 d)
    obtain ⟨m0, m1, m2, m3, m4, m5, mf, mlt⟩ := HM
    clear h hL hpl hst hFb hBF HT mf hb1 HAT RR hrc hrg hrn hown h0
    go_enter Tryz.func147, Tryz.ntmps147
    go_wp2_with fail
    refine (HCL.out w HRR.out HNA.out).mono ?_
    rintro e w1 ⟨u, rfl, OU, BU⟩
    have hu2 := OU.slice
    obtain ⟨uA, uc, ev, -, -, -, -⟩ := hu2
    obtain ⟨un, hun⟩ : ∃ un, un = (toZ (st.getD d [])).length := ⟨_, rfl⟩
    rw [← hun] at ev
    subst ev
    have hTw : Two (fun k => F k ∨ (Value.slice uA un uc).ownBlock = some k) w1 gs gt base st tr := by
      cases hq : (Value.slice uA un uc).ownBlock with
      | none => exact (HTT.out.below BU).weak (fun i hi => by
          rcases hi with hi | hi
          · exact hi
          · cases hi)
      | some q =>
        have hqb := own_block OU hq
        exact (HTT.out.fresh BU (b := q) hqb.1 hqb.2).weak (fun i hi => by
          rcases hi with hi | hi
          · exact Or.inl hi
          · exact Or.inr (Option.some.inj hi).symm)
    have hNN : ∀ k, F k → (Value.slice uA un uc).ownBlock ≠ some k := fun k hk e => by
      have h1 := own_block OU e
      have := (HTT.out.fs k hk).1
      omega
    obtain ⟨v2, e1, e2, e3, e4, e5, e6⟩ := hTw.cut (k := d) (by rw [HSL.out]; exact HDS.out)
    have hM1 := HMM.out.below BU HMM.out.lt
    obtain ⟨m0, m1, m2, m3, m4, m5, mf, mlt⟩ := hM1
    have HO2 := Lib.hid (show Own .i64 3 (w1.setCell ⟨gs, d, none⟩ (.slice none 0 0)) w.heap.size (.slice uA un uc) (toZ (st.getD d [])) from OU.kp e6 (fun g hg => Or.inr hg))
    have HZ2 := Lib.hid (show Two (fun k => F k ∨ (Value.slice uA un uc).ownBlock = some k) (w1.setCell ⟨gs, d, none⟩ (.slice none 0 0)) gs gt base (cutS st (d + 1)) tr from by
      have : cutS st (d + 1) = st.set d [] := rfl
      rw [this]
      exact e4.weak (fun i hi => Or.inl hi))
    have HK2 := Lib.hid ((Kp.of_below (F := F) BU (fun i hi => (HTT.out.fs i hi).1)).trans (e6.weak (fun i hi => Or.inl hi)))
    have HN2 := Lib.hid hNN
    have hM2 := (MB.mk m0 m1 m2 m3 m4 m5 mf mlt).kp (e6.weak (G := F) (fun i hi => Or.inl hi)) HFB.out
    have HM2 := Lib.hid hM2
    clear hcell e3 e4 e5 e6 OU BU hTw hNN mf hun hM2
    go_upto_region 5 with fail
    clear m0 m1 m2 m3 m4 m5 mlt e1 e2
    generalize w1.setCell ⟨gs, d, none⟩ (.slice none 0 0) = w2 at *
    obtain ⟨m0, m1, m2, m3, m4, m5, mf, mlt⟩ := HM2.out
    go_wp2_with fail
    clear m0 m1 m2 m3 m4 m5 mlt mf HM2
    go_loopw [5, 31] (fun uv iv wr => ∃ k : Nat, k ≤ L ∧ iv = .int .i64 (k : Int) ∧ ∃ uA un uc, uv = .slice uA un uc ∧ Hid (Own .i64 3 wr w.heap.size (.slice uA un uc) (toZ (st.getD d [] ++ comeL k (rdN l) (d + 1)))) ∧ Hid (Two (fun k => F k ∨ (Value.slice uA un uc).ownBlock = some k) wr gs gt base (cutS st (d + 1)) tr) ∧ Hid (Kp F w wr) ∧ Hid (∀ k, F k → (Value.slice uA un uc).ownBlock ≠ some k)) (fun _ iv _ => L - (intOf iv).toNat)
    case atStart => exact ⟨0, by omega, rfl, uA, un, uc, rfl, Lib.hid (by have := HO2.out; show Own .i64 3 _ _ _ (toZ (st.getD d [] ++ [])); rw [List.append_nil]; exact this), HZ2, HK2, HN2⟩
    case round =>
      clear HO2 HZ2 HK2 HN2
      obtain ⟨k, hk, rfl, uA, un, uc, rfl, O, Z, K, N⟩ := hrel
      have HR := Lib.hid (show IRow wr A l from ⟨(H.out.under (K.out.below HBF.out)).more (by
        rcases Nat.lt_or_ge wr.heap.size B with g | g
        · have := (HTT.out.fs wr.heap.size (HBF.out _ g)).1; have := K.out.size; omega
        · exact g), by have := HL.out; unfold maxLen; omega⟩)
      by_cases hlt : k < L
      · have hkl : k < l.length := by rw [← HL.out]; exact hlt
        obtain ⟨aA, rfl, CE⟩ := HR.out.at_ k hkl
        obtain ⟨c0, c1, c2, c3⟩ := CE.spelt
        have hki : (k : Int) < (L : Int) := by omega
        obtain ⟨⟨tv, bv, rv, lv⟩, hp4⟩ : ∃ p, p = l.getD k it0 := ⟨_, rfl⟩
        have hrv : rv = (rdN l k : Int) := by
          have := (HPL.out.rd hkl).1
          rw [← this]; unfold rnd; rw [← hp4]
        rw [← hp4] at c0 c1 c2 c3
        obtain ⟨R, hR⟩ : ∃ R, R = rdN l k := ⟨_, rfl⟩
        have HRQ := Lib.hid hR
        rw [← hR] at hrv
        clear hp4 hR
        subst hrv
        have BX := (Below.refl wr.heap.size wr).alloc (Nat.le_refl _) (.cells #[.int .i64 tv, .int .i64 bv, .int .i64 (R : Int), .int .i64 lv] 52)
        have P1 := IPl.new (w := wr) (p := (tv, bv, (R : Int), lv)) (T := 52) wr.heap.size rfl
        have O1 := Lib.hid (O.out.below BX)
        have Z1 := Lib.hid (Z.out.below BX)
        have K1 := Lib.hid (K.out.trans (Kp.of_below (F := F) BX (fun i hi => (Z.out.fs i (Or.inl hi)).1)))
        have hll := comeL_len k (rdN l) (d + 1)
        have HLN := Lib.hid (show (toZ (st.getD d [] ++ comeL k (rdN l) (d + 1))).length + 1 ≤ 1000000000 by rw [toZ_len, List.length_append]; have := HSD.out; omega)
        clear CE O Z K
        obtain ⟨q, hq⟩ : ∃ q, q = wr.heap.size := ⟨_, rfl⟩
        go_upto_region 8 with fail
        clear c0 c1 c2 c3
        rw [← hq] at P1 ⊢
        generalize wr.alloc (.cells #[.int .i64 tv, .int .i64 bv, .int .i64 (R : Int), .int .i64 lv] 52) = w1 at *
        clear hq BX
        obtain ⟨p0, p1, p2, p3, plt⟩ := P1
        by_cases e : R = d + 1
        · have HST := Lib.hid (show comeL (k + 1) (rdN l) (d + 1) = comeL k (rdN l) (d + 1) ++ [k] by rw [comeL_app, if_pos (by rw [← HRQ.out]; exact e)])
          have hre : ((R : Int) == (d : Int) + 1) = true := by simp; omega
          have hre2 : ((R : Int) == ((d + 1 : Nat) : Int)) = true := by simp; omega
          have HS2 := Lib.hid (show w.heap.size ≤ w1.heap.size from K1.out.size)
          clear e
          go_wp2_with (first | (at_builtin; refine wpList_appI _ rfl (.tmp 40) (.tmp 42) rfl w.heap.size _ (toZ (st.getD d [] ++ comeL k (rdN l) (d + 1))) rfl (O1.out.alloc _) (k : Int) w1 rfl _ rfl 1 rfl HLN.out (le_allocW HS2.out) ?_; intro v6 w6 AP; have ZZ := Lib.hid ((Z1.out.below ((Below.refl _ _).alloc (Nat.le_refl _) _)).grow AP N.out); have OO := Lib.hid AP.1; have KW := Lib.hid (K1.out.trans (Kp.of_below (F := F) ((Below.refl w1.heap.size w1).alloc (Nat.le_refl _) (.cells #[.int .i64 (k : Int)] 3)) (fun i hi => (Z1.out.fs i (Or.inl hi)).1))); have hag := AP.2.2; obtain ⟨g6, c6, rfl, -, -⟩ := hag; clear AP))
          clear p0 p1 p2 p3 O1 Z1 K1 N hre hre2
          go_roundw
          case rel => exact ⟨k + 1, by omega, by go_num, _, _, _, rfl, Lib.hid (by rw [HST.out, ← List.append_assoc, show toZ (st.getD d [] ++ comeL k (rdN l) (d + 1) ++ [k]) = toZ (st.getD d [] ++ comeL k (rdN l) (d + 1)) ++ [(k : Int)] from by rw [toZ_app]; rfl]; exact OO.out), Lib.hid ZZ.out.1, Lib.hid (KW.out.trans ZZ.out.2.1), Lib.hid ZZ.out.2.2⟩
          case measure => simp [intOf]; omega
        · have HST := Lib.hid (show comeL (k + 1) (rdN l) (d + 1) = comeL k (rdN l) (d + 1) by rw [comeL_app, if_neg (by rw [← HRQ.out]; exact e)])
          have hre : ((R : Int) == (d : Int) + 1) = false := by simp; omega
          have hre2 : ((R : Int) == ((d + 1 : Nat) : Int)) = false := by simp; omega
          clear e
          go_wp2_with fail
          clear p0 p1 p2 p3 hre hre2
          go_roundw
          case rel => exact ⟨k + 1, by omega, by go_num, _, _, _, rfl, Lib.hid (by rw [HST.out]; exact O1.out), Z1, K1, N⟩
          case measure => simp [intOf]; omega
      · obtain rfl : k = L := by omega
        go_wp2_with fail
        go_ret
        exact ⟨_, rfl, by have := O.out; rw [HL.out] at this; exact this, Z.out, K.out, N.out⟩
end Go.Proofs.YtimkmieohkefiaaGreat

namespace Go.Proofs.YtimkmieohkefiaaGreat
open Go.RowKit Go.Lib

theorem putS_bd {S : Nat} {cd : Nat → Nat} {t M x : Nat} {st : List (List Nat)} (h : ∀ k, (st.getD k []).length ≤ M) : ∀ k, ((putS S cd t st x).getD k []).length ≤ M + 1 := by
  intro k
  unfold putS
  split
  · by_cases g : dst S (cd x) t < st.length
    · rw [getD_setL g]
      split
      · rw [List.length_append, List.length_singleton]; have := h (dst S (cd x) t); omega
      · have := h k; omega
    · rw [List.set_eq_of_length_le (by omega)]; have := h k; omega
  · have := h k; omega
theorem putT_bd {S : Nat} {cd tn : Nat → Nat} {t M x : Nat} {tr : List (List Nat)} (h : ∀ k, (tr.getD k []).length ≤ M) : ∀ k, ((putT S cd tn t tr x).getD k []).length ≤ M + 1 := by
  intro k
  unfold putT
  split
  · have := h k; omega
  · by_cases g : tn x < tr.length
    · rw [getD_setL g]
      split
      · rw [List.length_append, List.length_singleton]; have := h (tn x); omega
      · have := h k; omega
    · rw [List.set_eq_of_length_le (by omega)]; have := h k; omega
theorem foldS_bd {S : Nat} {cd : Nat → Nat} {t : Nat} (q : List Nat) : ∀ (M : Nat) (st : List (List Nat)), (∀ k, (st.getD k []).length ≤ M) → ∀ k, ((q.foldl (putS S cd t) st).getD k []).length ≤ M + q.length := by
  induction q with
  | nil => intro M st h k; exact h k
  | cons x q ih =>
    intro M st h k
    rw [List.foldl_cons]
    have := ih (M + 1) (putS S cd t st x) (putS_bd (S := S) (cd := cd) (t := t) (x := x) h) k
    rw [List.length_cons]; omega
theorem foldT_bd {S : Nat} {cd tn : Nat → Nat} {t : Nat} (q : List Nat) : ∀ (M : Nat) (tr : List (List Nat)), (∀ k, (tr.getD k []).length ≤ M) → ∀ k, ((q.foldl (putT S cd tn t) tr).getD k []).length ≤ M + q.length := by
  induction q with
  | nil => intro M st h k; exact h k
  | cons x q ih =>
    intro M tr h k
    rw [List.foldl_cons]
    have := ih (M + 1) (putT S cd tn t tr x) (putT_bd (S := S) (cd := cd) (tn := tn) (t := t) (x := x) h) k
    rw [List.length_cons]; omega
theorem nodup_le {p : List Nat} (h : p.Nodup) {L : Nat} (hm : ∀ x ∈ p, x < L) : p.length ≤ L := by
  have := List.Nodup.length_le_of_subset h (fun x hx => List.mem_range.2 (hm x hx) : p ⊆ List.range L)
  simpa using this
theorem getD_out {ls : List (List Nat)} {k : Nat} (h : ls.length ≤ k) : ls.getD k [] = [] := by
  rw [List.getD_eq_getElem?_getD, List.getElem?_eq_none h]; rfl
section
variable {S L T : Nat} {cd rd tn : Nat → Nat}
theorem mS_bd (h : FitN S L T cd rd tn) {n : Nat} (hn : n ≤ S + 1) : ∀ k, ((mS S L cd rd n).getD k []).length ≤ L := by
  intro k
  by_cases g : k < S
  · have ho := onS_all h n hn k g
    exact nodup_le (ltN_nodup ho.asc) (fun x hx => ((ho.mem x).1 hx).1)
  · rw [getD_out (by rw [mS_len]; omega)]; exact Nat.zero_le _
theorem mT_bd (h : FitN S L T cd rd tn) {n : Nat} (hn : n ≤ S + 1) : ∀ k, ((mT S L T cd rd tn n).getD k []).length ≤ L := by
  intro k
  by_cases g : k < T
  · have ho := onT_all h n hn k g
    exact nodup_le (ltN_nodup ho.asc) (fun x hx => ((ho.mem x).1 hx).1)
  · rw [getD_out (by rw [mT_len]; omega)]; exact Nat.zero_le _
theorem q_facts (h : FitN S L T cd rd tn) {n : Nat} (hn : n ≤ S) : (∀ x ∈ qAt L rd (mS S L cd rd n) n, x < L ∧ rd x ≤ n) ∧ (qAt L rd (mS S L cd rd n) n).length ≤ L := by
  obtain ⟨qa, qm⟩ := q_asc h hn (onS_all h n (by omega))
  have hx : ∀ x ∈ qAt L rd (mS S L cd rd n) n, x < L ∧ rd x ≤ n := fun x hx => by
    have := (qm x).1 hx
    omega
  exact ⟨hx, nodup_le (ltN_nodup qa) (fun x h => (hx x h).1)⟩
theorem cutS_bd {st : List (List Nat)} {t M : Nat} (h : ∀ k, (st.getD k []).length ≤ M) : ∀ k, ((cutS st t).getD k []).length ≤ M := by
  intro k
  unfold cutS
  split
  · exact h k
  · by_cases g : t - 1 < st.length
    · rw [getD_setL g]
      split
      · exact Nat.zero_le _
      · exact h k
    · rw [List.set_eq_of_length_le (by omega)]; exact h k
end
theorem mM_bd {S L T : Nat} {cd rd tn : Nat → Nat} (h : FitN S L T cd rd tn) (hL : L ≤ 96) (hS : S ≤ 12) : ∀ n, n ≤ S + 1 → mM S L cd rd n ≤ n * 96 := by
  intro n
  induction n with
  | zero => intro _; exact Nat.zero_le _
  | succ n ih =>
    intro hn
    have := ih (by omega)
    have := (q_facts h (n := n) (by omega)).2
    unfold mM
    omega
/-- A store into one of the kept blocks. -/
theorem Two.setF {F : Nat → Prop} {w : World} {gs gt base : Nat} {st tr : List (List Nat)} (h : Two F w gs gt base st tr) {p : Addr} (hp : F p.block) (u : Value) : Two F (w.setCell p u) gs gt base st tr := by
  obtain ⟨⟨vs, vt, h1, h2, h3, h4, h5⟩, h6, h7⟩ := h
  have key : ∀ (g : Nat) us ts, OL w g base us ts → g ≠ p.block → (∀ (i : Nat) u, us[i]? = some u → u.ownBlock ≠ some p.block) → OL (w.setCell p u) g base us ts := fun g us ts o hne hap =>
    ⟨by rw [Below.heap_setCell _ _ _ _ hne]; exact o.blk, o.len, fun k z t hz ht => (o.own k z t hz ht).kept (setCell_grown w p u) (Or.inr (hap k z hz)), o.apt, o.gb, by rw [World.size_setCell]; exact o.le⟩
  exact ⟨⟨vs, vt, key gs vs _ h1 (fun e => (h7 _ hp).2.1 e.symm) (fun i z hz => h4 _ hp i z hz), key gt vt _ h2 (fun e => (h7 _ hp).2.2 e.symm) (fun i z hz => h5 _ hp i z hz), h3, h4, h5⟩, h6, fun k hk => by rw [World.size_setCell]; exact h7 k hk⟩
theorem MB.put4 {w : World} {b : Nat} {A : Option Addr} {L c : Nat} {pA : Option Addr} {n pc gs S gt T : Nat} {mv pu : Int} (h : MB w b A L c pA n pc gs S gt T mv pu) (x : Int) : MB (w.setCell ⟨b, 4, none⟩ (.int .i64 x)) b A L c pA n pc gs S gt T x pu :=
  ⟨by rw [World.cell?_setCell_other _ _ _ _ (by simp)]; exact h.c0, by rw [World.cell?_setCell_other _ _ _ _ (by simp)]; exact h.c1, by rw [World.cell?_setCell_other _ _ _ _ (by simp)]; exact h.c2, by rw [World.cell?_setCell_other _ _ _ _ (by simp)]; exact h.c3, World.cell?_setCell_same _ _ _ h.c4, by rw [World.cell?_setCell_other _ _ _ _ (by simp)]; exact h.c5, fun j => by rw [World.frozen?_setCell]; exact h.f j, by rw [World.size_setCell]; exact h.lt⟩
theorem MB.put5 {w : World} {b : Nat} {A : Option Addr} {L c : Nat} {pA : Option Addr} {n pc gs S gt T : Nat} {mv pu : Int} (h : MB w b A L c pA n pc gs S gt T mv pu) (x : Int) : MB (w.setCell ⟨b, 5, none⟩ (.int .i64 x)) b A L c pA n pc gs S gt T mv x :=
  ⟨by rw [World.cell?_setCell_other _ _ _ _ (by simp)]; exact h.c0, by rw [World.cell?_setCell_other _ _ _ _ (by simp)]; exact h.c1, by rw [World.cell?_setCell_other _ _ _ _ (by simp)]; exact h.c2, by rw [World.cell?_setCell_other _ _ _ _ (by simp)]; exact h.c3, by rw [World.cell?_setCell_other _ _ _ _ (by simp)]; exact h.c4, World.cell?_setCell_same _ _ _ h.c5, fun j => by rw [World.frozen?_setCell]; exact h.f j, by rw [World.size_setCell]; exact h.lt⟩
theorem take_succL {q : List Nat} {j : Nat} (h : j < q.length) : q.take (j + 1) = q.take j ++ [q.getD j 0] := by
  rw [List.take_succ_eq_append_getElem h, List.getD_eq_getElem?_getD, List.getElem?_eq_getElem h]; rfl
/-- What push leaves. -/
def PushPost (F : Nat → Prop) (l : List It) (S : Nat) (v : List Int) (A : Option Addr) (c L : Nat) (pA : Option Addr) (n pc gs gt T base b t : Nat) (w w' : World) : Prop :=
  Two F w' gs gt base (mS S l.length (cdN v) (rdN l) (t + 1)) (mT S l.length T (cdN v) (rdN l) (tnN l) (t + 1)) ∧ MB w' b A L c pA n pc gs S gt T (mM S l.length (cdN v) (rdN l) (t + 1) : Int) (mP S l.length (cdN v) (rdN l) (t + 1) : Int) ∧ Kp (fun k => F k ∧ k ≠ b) w w'
set_option maxRecDepth 100000 in
set_option maxHeartbeats 3200000 in
theorem push_any (F : Nat → Prop) (l : List It) (wt : Int) (S : Nat) (v : List Int) (hpl : Pl l wt S v) (A : Option Addr) (c L : Nat) (hL : L = l.length) (pA : Option Addr) (n pc gs gt T base b t B : Nat) (w : World)
    (hBF : ∀ k, k < B → F k) (h : Row .i64 w B A (flatI l)) (hp : Row .i64 w B pA v) (hn : n = v.length) (HM : MB w b A L c pA n pc gs S gt T (mM S l.length (cdN v) (rdN l) t : Int) (mP S l.length (cdN v) (rdN l) t : Int))
    (HT : Two F w gs gt base (mS S l.length (cdN v) (rdN l) t) (mT S l.length T (cdN v) (rdN l) (tnN l) t)) (hFb : F b) (hT : T = tnT l) (htS : t ≤ S) :
    Calls Tryz.prog 116 #[.pointer (some ⟨b, 0, none⟩), .int .i64 (t : Int)] w fun e w' => e = .returned (.tuple #[]) ∧ PushPost F l S v A c L pA n pc gs gt T base b t w w' := by
  have hS := hpl.s12
  have hf := hpl.fitN
  rw [← hT] at hf
  have hL96 := hpl.l96
  have hmm := mM_bd hf hL96 hS t (by omega)
  have hmp := mP_le (S := S) (L := l.length) (cd := cdN v) (rd := rdN l) t
  obtain ⟨qf, ql⟩ := q_facts hf htS
  have HSB := Lib.hid (mS_bd hf (n := t) (by omega))
  have HTB := Lib.hid (mT_bd hf (n := t) (by omega))
  have HS1 := Lib.hid (show mS S l.length (cdN v) (rdN l) (t + 1) = (qAt l.length (rdN l) (mS S l.length (cdN v) (rdN l) t) t).foldl (putS S (cdN v) t) (cutS (mS S l.length (cdN v) (rdN l) t) t) from rfl)
  have HT1 := Lib.hid (show mT S l.length T (cdN v) (rdN l) (tnN l) (t + 1) = (qAt l.length (rdN l) (mS S l.length (cdN v) (rdN l) t) t).foldl (putT S (cdN v) (tnN l) t) (mT S l.length T (cdN v) (rdN l) (tnN l) t) from rfl)
  have HM1 := Lib.hid (show mM S l.length (cdN v) (rdN l) (t + 1) = mM S l.length (cdN v) (rdN l) t + (qAt l.length (rdN l) (mS S l.length (cdN v) (rdN l) t) t).length from rfl)
  have HP1 := Lib.hid (show mP S l.length (cdN v) (rdN l) (t + 1) = mP S l.length (cdN v) (rdN l) t + if (qAt l.length (rdN l) (mS S l.length (cdN v) (rdN l) t) t).length = 0 then 0 else 1 from rfl)
  have hsl := mS_len (S := S) (L := l.length) (cd := cdN v) (rd := rdN l) t
  have htl := mT_len (S := S) (L := l.length) (T := T) (cd := cdN v) (rd := rdN l) (tn := tnN l) t
  have HTK := Lib.hid (take_any F l wt S v hpl A c L hL pA n pc gs gt T base b t B _ _ _ _ w hBF h HM HT hFb hsl htS (fun k => by have := HSB.out k; omega))
  obtain ⟨st, hst⟩ : ∃ st, st = mS S l.length (cdN v) (rdN l) t := ⟨_, rfl⟩
  obtain ⟨tr, htr⟩ : ∃ tr, tr = mT S l.length T (cdN v) (rdN l) (tnN l) t := ⟨_, rfl⟩
  obtain ⟨mv, hmv⟩ : ∃ mv, mv = mM S l.length (cdN v) (rdN l) t := ⟨_, rfl⟩
  obtain ⟨pu, hpu⟩ : ∃ pu, pu = mP S l.length (cdN v) (rdN l) t := ⟨_, rfl⟩
  rw [← hst] at HSB HS1 HT1 HM1 HP1 hsl HTK qf ql HT
  rw [← htr] at HTB HT1 htl HTK HT
  rw [← hmv] at HM HM1 hmm
  rw [← hpu] at HM HP1 hmp
  clear hst htr hmv hpu
  obtain ⟨Q, hQ⟩ : ∃ Q, Q = qAt l.length (rdN l) st t := ⟨_, rfl⟩
  rw [← hQ] at HS1 HT1 HM1 HP1 HTK qf ql
  clear hQ
  have HMM := Lib.hid HM
  have HTT := Lib.hid HT
  have H := Lib.hid h
  have HR := Lib.hid hp
  have HBF := Lib.hid hBF
  have HFB := Lib.hid hFb
  have HPL := Lib.hid hpl
  have HL := Lib.hid hL
  have HN := Lib.hid hn
  have HTQ := Lib.hid hT
  have HQF := Lib.hid qf
  have HSL := Lib.hid hsl
  have HTL := Lib.hid htl
  have HL96 := Lib.hid hL96
  have HMB := Lib.hid hmm
  have HPB := Lib.hid hmp
  have HQL := Lib.hid ql
  clear HM HT h hp hBF hFb hpl hL hn hT qf hsl htl hf hL96 hmm hmp ql
  go_enter Tryz.func116, Tryz.ntmps116
  go_wp2_with fail
  refine HTK.out.mono ?_
  rintro e w1 ⟨u, rfl, O, Z, K, N⟩
  obtain ⟨uA, uc, ev, UR, -, -, -⟩ := O.slice
  obtain ⟨un, hun⟩ : ∃ un, un = (toZ Q).length := ⟨_, rfl⟩
  rw [← hun] at ev
  subst ev
  have HUN := Lib.hid (show un = Q.length by rw [hun, toZ_len])
  have hun2 : un ≤ 96 := by rw [HUN.out]; exact Nat.le_trans HQL.out HL96.out
  have HO := Lib.hid O
  have Z0 := Lib.hid (show Two (fun k => F k ∨ (Value.slice uA un uc).ownBlock = some k) w1 gs gt base ((Q.take 0).foldl (putS S (cdN v) t) (cutS st t)) ((Q.take 0).foldl (putT S (cdN v) (tnN l) t) tr) from Z)
  have K0 := Lib.hid K
  clear HTK O Z K N UR hun
  go_wp2_with fail
  go_loopw [12] (fun iv wr => ∃ j : Nat, j ≤ un ∧ iv = .int .i64 (j : Int) ∧ Hid (Two (fun k => F k ∨ (Value.slice uA un uc).ownBlock = some k) wr gs gt base ((Q.take j).foldl (putS S (cdN v) t) (cutS st t)) ((Q.take j).foldl (putT S (cdN v) (tnN l) t) tr)) ∧ Hid (Kp F w wr) ∧ Hid (Own .i64 3 wr w.heap.size (.slice uA un uc) (toZ Q))) (fun iv _ => un - (intOf iv).toNat)
  case atStart => exact ⟨0, by omega, rfl, Z0, K0, HO⟩
  case round =>
    clear Z0 K0 HO
    obtain ⟨j, hj, rfl, Z, K, O⟩ := hrel
    by_cases hlt : j < un
    · have hjq : j < Q.length := by rw [← HUN.out]; exact hlt
      have hor := O.out
      obtain ⟨A', c', ev, UR, -, -, -⟩ := hor.slice
      obtain rfl : uA = A' := by injection ev
      obtain ⟨ad, rfl, alt, ca⟩ := UR j (by rw [toZ_len]; exact hjq)
      rw [toZ_at Q hjq] at ca
      have HTS := Lib.hid (take_succL hjq)
      obtain ⟨hx, hr⟩ := HQF.out _ (getD_memN hjq)
      have hji : (j : Int) < (un : Int) := by omega
      obtain ⟨x, hxe⟩ : ∃ x, x = Q.getD j 0 := ⟨_, rfl⟩
      rw [← hxe] at ca HTS hx hr
      have htl : (Q.take j).length = j := by rw [List.length_take]; omega
      have hszB : B ≤ wr.heap.size := by
        rcases Nat.lt_or_ge wr.heap.size B with g | g
        · have := (HTT.out.fs wr.heap.size (HBF.out _ g)).1; have := K.out.size; omega
        · exact g
      have hbel := K.out.below HBF.out
      have HPT := Lib.hid (put_any (fun k => F k ∨ (Value.slice (some ad) un uc).ownBlock = some k) l wt S v HPL.out A c L HL.out pA n pc gs gt T base b x t (96 + j) _ _ _ _ wr
        ⟨(H.out.under hbel).more hszB, by have := HL96.out; unfold maxLen; omega⟩ ((HR.out.under hbel).more hszB) HN.out (HMM.out.kp K.out HFB.out) Z.out (Or.inl HFB.out) (by rw [foldS_len, cutS_len]; exact HSL.out) (by rw [foldT_len]; exact HTL.out) HTQ.out hx hr htS (by omega)
        (fun k => by have := foldS_bd (S := S) (cd := cdN v) (t := t) (Q.take j) 96 _ (cutS_bd (t := t) (fun k => Nat.le_trans (HSB.out k) HL96.out)) k; rw [htl] at this; exact this)
        (fun k => by have := foldT_bd (S := S) (cd := cdN v) (tn := tnN l) (t := t) (Q.take j) 96 _ (fun k => Nat.le_trans (HTB.out k) HL96.out) k; rw [htl] at this; exact this))
      clear UR ev hbel hszB hx hr hxe htl hor
      go_wp2_with fail
      refine HPT.out.mono ?_
      rintro e w2 ⟨rfl, Z2, K2⟩
      have HZ2 := Lib.hid (show Two (fun k => F k ∨ (Value.slice (some ad) un uc).ownBlock = some k) w2 gs gt base ((Q.take (j + 1)).foldl (putS S (cdN v) t) (cutS st t)) ((Q.take (j + 1)).foldl (putT S (cdN v) (tnN l) t) tr) by
        rw [HTS.out, List.foldl_append, List.foldl_append]; exact Z2)
      have HK2 := Lib.hid (K.out.trans (K2.weak (G := F) (fun i hi => Or.inl hi)))
      have HO2 := Lib.hid (O.out.kp K2 (fun g hg => Or.inr hg))
      clear HPT Z2 K2 Z K O ca
      go_wp2_with fail
      go_roundw
      case rel => exact ⟨j + 1, by omega, by go_num, HZ2, HK2, HO2⟩
      case measure => simp [intOf]; omega
    · have hju : j = un := by omega
      have hz := Z.out
      rw [hju, HUN.out, List.take_length, ← HS1.out, ← HT1.out] at hz
      have HZ := Lib.hid (hz.weak (G := F) (fun i hi => Or.inl hi))
      have HMR := Lib.hid (HMM.out.kp K.out HFB.out)
      have hmv1 : mv ≤ 2000 := by have := HMB.out; omega
      have hpu1 : pu ≤ 2000 := by have := HPB.out; omega
      have HMV := Lib.hid (show (mv : Int) + (un : Int) = ((mM S l.length (cdN v) (rdN l) (t + 1) : Nat) : Int) by rw [HM1.out, HUN.out]; omega)
      have M4 := Lib.hid (HMR.out.put4 ((mv : Int) + (un : Int)))
      have Z4 := Lib.hid (HZ.out.setF (p := ⟨b, 4, none⟩) HFB.out (.int .i64 ((mv : Int) + (un : Int))))
      have K4 := Lib.hid ((K.out.weak (G := fun k => F k ∧ k ≠ b) (fun i hi => hi.1)).setCell (p := ⟨b, 4, none⟩) (fun e => e.2 rfl) (.int .i64 ((mv : Int) + (un : Int))))
      obtain ⟨m0, m1, m2, m3, m4, m5, mf, mlt⟩ := HMR.out
      have mf4 := mf 4
      clear hz Z K O HZ hlt hj mf
      have hnj : ¬ (j : Int) < (un : Int) := by omega
      clear hju
      go_upto_region 7 with fail
      clear m0 m1 m2 m3 m4 m5 mf4 mlt hnj hmv1
      generalize wr.setCell ⟨b, 4, none⟩ (.int .i64 ((mv : Int) + (un : Int))) = w4 at *
      obtain ⟨-, -, -, -, -, m5, mf, mlt⟩ := M4.out
      have mf5 := mf 5
      clear mf
      by_cases h0 : un = 0
      · have HP2 := Lib.hid (show (pu : Int) = ((mP S l.length (cdN v) (rdN l) (t + 1) : Nat) : Int) by rw [HP1.out, if_pos (by rw [← HUN.out]; exact h0)]; rfl)
        have hng : ¬ (0 : Int) < (un : Int) := by omega
        clear h0
        go_wp2_with fail
        go_end0
        refine ⟨rfl, Z4.out, ?_, K4.out⟩
        rw [← HMV.out, ← HP2.out]
        exact M4.out
      · have HP2 := Lib.hid (show (pu : Int) + 1 = ((mP S l.length (cdN v) (rdN l) (t + 1) : Nat) : Int) by rw [HP1.out, if_neg (by rw [← HUN.out]; exact h0)]; rfl)
        have hng : (0 : Int) < (un : Int) := by omega
        clear h0
        go_wp2_with fail
        go_end0
        refine ⟨rfl, Z4.out.setF (p := ⟨b, 5, none⟩) HFB.out _, ?_, K4.out.setCell (p := ⟨b, 5, none⟩) (fun e => e.2 rfl) _⟩
        rw [← HMV.out, ← HP2.out]
        exact M4.out.put5 _
end Go.Proofs.YtimkmieohkefiaaGreat

namespace Go.Proofs.YtimkmieohkefiaaGreat
open Go.RowKit

end Go.Proofs.YtimkmieohkefiaaGreat

namespace Go.Proofs.YtimkmieohkefiaaGreat
open Go.RowKit Go.Lib

/-- Each element is an index of the job, and comes before the next one. -/
def chB (l : List It) : Option Nat → List Int → Bool
  | _, [] => true
  | p, x :: c => if 0 ≤ x ∧ x < (l.length : Int) then (if ((match p with | none => 1 | some q => rel l q x.toNat) : Int) = 0 then false else chB l (some x.toNat) c) else false
theorem chB_bad {l : List It} {p : Option Nat} {x : Int} {c : List Int} (h : ¬ (0 ≤ x ∧ x < (l.length : Int))) : chB l p (x :: c) = false := by
  unfold chB; rw [if_neg h]
theorem chB_none {l : List It} {x : Nat} {c : List Int} (h : x < l.length) : chB l none ((x : Int) :: c) = chB l (some x) c := by
  show (if 0 ≤ (x : Int) ∧ (x : Int) < (l.length : Int) then (if (1 : Int) = 0 then false else chB l (some ((x : Int)).toNat) c) else false) = _
  rw [if_pos (by omega), if_neg (by omega)]; rfl
theorem chB_some {l : List It} {q x : Nat} {c : List Int} (h : x < l.length) : chB l (some q) ((x : Int) :: c) = if rel l q x = 0 then false else chB l (some x) c := by
  show (if 0 ≤ (x : Int) ∧ (x : Int) < (l.length : Int) then (if rel l q ((x : Int)).toNat = 0 then false else chB l (some ((x : Int)).toNat) c) else false) = _
  rw [if_pos (by omega)]; rfl
theorem chB_iff {l : List It} : ∀ {c : List Int} {p : Option Nat}, chB l p c = true ↔ ∃ d, c = toZ d ∧ chn l p d := by
  intro c
  induction c with
  | nil =>
    intro p
    refine ⟨fun _ => ⟨[], rfl, by cases p <;> trivial⟩, fun _ => by cases p <;> rfl⟩
  | cons x c ih =>
    intro p
    by_cases hx : 0 ≤ x ∧ x < (l.length : Int)
    · obtain ⟨X, rfl⟩ := Int.eq_ofNat_of_zero_le hx.1
      have hX : X < l.length := by omega
      cases p with
      | none =>
        rw [chB_none hX, ih]
        constructor
        · rintro ⟨d, rfl, h⟩; exact ⟨X :: d, rfl, hX, fun x e => (by cases e), h⟩
        · rintro ⟨d, e, h⟩
          cases d with
          | nil => cases e
          | cons y d =>
            have e1 : (X : Int) = (y : Int) := by injection e
            have e2 : c = toZ d := by injection e
            obtain rfl : X = y := by omega
            exact ⟨d, e2, h.2.2⟩
      | some q =>
        rw [chB_some hX]
        by_cases hr : rel l q X = 0
        · rw [if_pos hr]
          refine ⟨fun h => (by cases h), ?_⟩
          rintro ⟨d, e, h⟩
          cases d with
          | nil => cases e
          | cons y d =>
            have e1 : (X : Int) = (y : Int) := by injection e
            obtain rfl : X = y := by omega
            exact absurd hr (h.2.1 q rfl)
        · rw [if_neg hr, ih]
          constructor
          · rintro ⟨d, rfl, h⟩; exact ⟨X :: d, rfl, hX, fun x e => (by injection e with e; subst e; exact hr), h⟩
          · rintro ⟨d, e, h⟩
            cases d with
            | nil => cases e
            | cons y d =>
              have e1 : (X : Int) = (y : Int) := by injection e
              have e2 : c = toZ d := by injection e
              obtain rfl : X = y := by omega
              exact ⟨d, e2, h.2.2⟩
    · rw [chB_bad hx]
      refine ⟨fun h => (by cases h), ?_⟩
      rintro ⟨d, e, h⟩
      cases d with
      | nil => cases e
      | cons y d =>
        have e1 : x = (y : Int) := by injection e
        exact absurd ⟨by omega, by have := h.1; omega⟩ hx
/-- What Bound answers. -/
def boundE (l : List It) (wt : Int) (c : List Int) : Int × Int :=
  if validR l wt ≠ 0 then (0, validR l wt) else if chB l none c = true then bnd l wt none 0 (c.map Int.toNat) else (0, 1)
theorem map_toZ (d : List Nat) : (toZ d).map Int.toNat = d := by
  unfold toZ
  rw [List.map_map]
  conv => rhs; rw [← List.map_id d]
  exact List.map_congr_left (fun x _ => by simp)
theorem chn_at {l : List It} : ∀ {d : List Nat} {p : Option Nat}, chn l p d → ∀ k, k < d.length → d.getD k 0 < l.length ∧ (0 < k → rel l (d.getD (k - 1) 0) (d.getD k 0) ≠ 0) := by
  intro d
  induction d with
  | nil => intro p _ k hk; cases hk
  | cons y d ih =>
    intro p h k hk
    cases k with
    | zero => exact ⟨h.1, fun g => absurd g (Nat.lt_irrefl _)⟩
    | succ k =>
      obtain ⟨i1, i2⟩ := ih h.2.2 k (by simp at hk; omega)
      refine ⟨i1, fun _ => ?_⟩
      cases k with
      | zero =>
        cases d with
        | nil => simp at hk
        | cons z d => exact h.2.2.2.1 y rfl
      | succ k => exact i2 (by omega)
/-- The element ahead of number k. -/
def prv (d : List Nat) : Nat → Option Nat
  | 0 => none
  | k + 1 => some (d.getD k 0)
theorem drop_N {d : List Nat} {k : Nat} (hk : k < d.length) : d.drop k = d.getD k 0 :: d.drop (k + 1) := by
  rw [List.drop_eq_getElem_cons hk, List.getD_eq_getElem?_getD, List.getElem?_eq_getElem hk]; rfl
theorem drop_I {d : List Int} {k : Nat} (hk : k < d.length) : d.drop k = d.getD k 0 :: d.drop (k + 1) := by
  rw [List.drop_eq_getElem_cons hk, List.getD_eq_getElem?_getD, List.getElem?_eq_getElem hk]; rfl
/-- A step of the bound. -/
theorem bnd_step {l : List It} {wt : Int} {d : List Nat} {k : Nat} {m : Int} (hk : k < d.length) (h0 : k = 0 → m = 0) {m' : Int} (hm : m' = if k = 0 then 0 else vk (rel l (d.getD (k - 1) 0) (d.getD k 0)) m) (hr : 0 < k → rel l (d.getD (k - 1) 0) (d.getD k 0) ≠ 0) :
    bnd l wt (prv d k) m (d.drop k) = if (nextZ m' (rnd l (d.getD k 0)) wt).2 = 0 then bnd l wt (prv d (k + 1)) (nextZ m' (rnd l (d.getD k 0)) wt).1 (d.drop (k + 1)) else (0, (nextZ m' (rnd l (d.getD k 0)) wt).2) := by
  rw [drop_N hk]
  cases k with
  | zero =>
    rw [if_pos rfl] at hm
    subst hm
    rw [h0 rfl]
    exact bnd_one l wt 0 _ _
  | succ k =>
    have e : m' = if rel l (d.getD k 0) (d.getD (k + 1) 0) = 2 then m + 1 else m := by
      rw [hm, if_neg (by omega)]
      have := hr (by omega)
      show vk (rel l (d.getD k 0) (d.getD (k + 1) 0)) m = _
      unfold vk
      by_cases g : rel l (d.getD k 0) (d.getD (k + 1) 0) = 2
      · rw [if_pos g, if_pos g]
      · rw [if_neg g, if_neg g, if_pos (by rcases rel_cases l (d.getD k 0) (d.getD (k + 1) 0) with c | c | c; exact absurd c this; exact c; exact absurd c g)]
    rw [e]
    exact bnd_two l wt _ m _ _
set_option maxRecDepth 100000 in
set_option maxHeartbeats 3200000 in
theorem isChain_any (l : List It) (A C : Option Addr) (c cc L n : Nat) (wt : Int) (hL : L = l.length) (hval : validR l wt = 0) (cs : List Int) (hn : n = cs.length) (hm : n ≤ maxLen) (w : World) (hi : IRow w A l) (hc : Row .i64 w w.heap.size C cs) :
    Calls Tryz.prog 132 #[jv A L c wt, .slice C n cc] w fun e w' => e = .returned (.bool (chB l none cs)) ∧ Below w.heap.size w w' := by
  have hm' : n ≤ 9223372036854775807 := hm
  have hL96 : L ≤ 96 := by have := (valid_ok hval).1; omega
  have HI := Lib.hid hi
  have HC := Lib.hid hc
  have HL := Lib.hid hL
  have HN := Lib.hid hn
  have HRL := Lib.hid (fun (x y : Nat) (hx : x < L) (hy : y < L) (W : World) (h2 : IRow W A l) => yrel_any l A c L wt hL hval x y hx hy W h2)
  have J0 := Lib.hid (JBox.new (w := w) (A := A) (n := L) (c := c) (wt := wt) w.heap.size rfl)
  have B0 := Lib.hid ((Below.refl w.heap.size w).alloc (Nat.le_refl _) (.cells #[.slice A L c, .int .i64 wt] 37))
  obtain ⟨b, hb⟩ : ∃ b, b = w.heap.size := ⟨_, rfl⟩
  clear hi hc hL hn hm hval
  go_enter Tryz.func132, Tryz.ntmps132
  go_upto_region 1 with fail
  rw [← hb] at J0 ⊢
  generalize w.alloc (.cells #[.slice A L c, .int .i64 wt] 37) = w1 at *
  clear hb
  go_wp2_with fail
  go_loopw [9] (fun iv wr => ∃ k : Nat, k ≤ n ∧ iv = .int .i64 (k : Int) ∧ Hid (∃ p, chB l none cs = chB l p (cs.drop k) ∧ (k = 0 → p = none) ∧ (0 < k → ∃ q : Nat, p = some q ∧ q < L ∧ cs.getD (k - 1) 0 = (q : Int))) ∧ Hid (Below w1.heap.size w1 wr)) (fun iv _ => n - (intOf iv).toNat)
  case atStart => exact ⟨0, by omega, rfl, Lib.hid ⟨none, rfl, fun _ => rfl, fun h => absurd h (Nat.lt_irrefl _)⟩, Lib.hid (Below.refl _ _)⟩
  case round =>
    obtain ⟨k, hk, rfl, P, BR⟩ := hrel
    by_cases hlt : k < n
    · have BW := Lib.hid (B0.out.trans (BR.out.mono B0.out.size))
      obtain ⟨ad, rfl, _, ck⟩ := (HC.out.below BW.out) k (by rw [← HN.out]; exact hlt)
      obtain ⟨x, hx⟩ : ∃ x, x = cs.getD k 0 := ⟨_, rfl⟩
      have hd := drop_I (d := cs) (k := k) (by rw [← HN.out]; exact hlt)
      rw [← hx] at ck hd
      have HD := Lib.hid hd
      have HX := Lib.hid hx
      obtain ⟨j0, j1, jl⟩ := (J0.out.below BR.out J0.out.lt)
      have hki : (k : Int) < (n : Int) := by omega
      clear hd hx
      by_cases hx0 : x < 0
      · obtain ⟨p, hp, _⟩ := P.out
        have HF := Lib.hid (show false = chB l none cs by rw [hp, HD.out, chB_bad (by omega)])
        clear hp
        go_wp2_with fail
        go_ret
        exact ⟨ret_bool HF.out, BW.out⟩
      · by_cases hx1 : x < (L : Int)
        · obtain ⟨X, rfl⟩ := Int.eq_ofNat_of_zero_le (show 0 ≤ x by omega)
          have hX : X < L := by omega
          have hx1' : ¬ (L : Int) ≤ (X : Int) := by omega
          cases k with
          | zero =>
            have HP2 := Lib.hid (show ∃ p, chB l none cs = chB l p (cs.drop 1) ∧ ((1 : Nat) = 0 → p = none) ∧ (0 < 1 → ∃ q : Nat, p = some q ∧ q < L ∧ cs.getD (1 - 1) 0 = (q : Int)) by
              obtain ⟨p, hp, h0, _⟩ := P.out
              rw [h0 rfl, HD.out, chB_none (by rw [← HL.out]; exact hX)] at hp
              exact ⟨_, hp, (fun h => by omega), fun _ => ⟨X, rfl, hX, HX.out.symm⟩⟩)
            have ck0 : wr.cell? ad = some (.int .i64 (X : Int)) := by
              have e0 : ad.add 0 = ad := by unfold Addr.add; rw [if_pos rfl]
              rw [← e0]; exact ck
            clear P HD ck
            go_wp2_with fail
            go_quiet (fail)
            go_wp2_with fail
            go_roundw
            case rel => exact ⟨1, by omega, by go_num, HP2, Lib.hid (bdn BR.out)⟩
            case measure => simp [intOf]; omega
          | succ k =>
            obtain ⟨p, hp, _, h1⟩ := P.out
            obtain ⟨q, rfl, hq, hcq⟩ := h1 (by omega)
            rw [HD.out, chB_some (by rw [← HL.out]; exact hX)] at hp
            have HP := Lib.hid hp
            obtain ⟨ad', e', _, cq⟩ := (HC.out.below BW.out) k (by rw [← HN.out]; omega)
            obtain rfl : ad = ad' := by injection e'
            have hcq' : cs.getD k 0 = (q : Int) := hcq
            rw [hcq'] at cq
            have HR := Lib.hid (fun W kb => HRL.out q X hq hX W kb)
            obtain ⟨r, hr⟩ : ∃ r, r = rel l q X := ⟨_, rfl⟩
            rw [← hr] at HR
            have HRR := Lib.hid hr
            have ltq := lt_of_cell cq
            have HPS := Lib.hid (fun (Y : World) (hY : Below wr.heap.size wr Y) => (show Y.cell? ⟨b, 0, none⟩ = some (.slice A L c) ∧ Y.cell? ⟨b, 1, none⟩ = some (.int .i64 wt) ∧ Y.cell? (ad.add k) = some (.int .i64 (q : Int)) from
              ⟨(hY.cell (p := ⟨b, 0, none⟩) jl).trans j0, (hY.cell (p := ⟨b, 1, none⟩) jl).trans j1, (hY.cell ltq).trans cq⟩))
            rw [add_sc] at ck
            clear P HD hp h1 e' hcq hcq' hr ltq cq
            have hk1 : (k : Int) + 1 - 1 = (k : Int) := by omega
            have hwr : IntKind.i64.wrap ((k : Int) + 1 - 1) = (k : Int) := by rw [IntWalk.i64_in _ (by omega)]; omega
            have hkn : (k : Int) < (n : Int) := by omega
            have hwk : IntKind.i64.wrap (k : Int) = (k : Int) := IntWalk.i64_in _ (by omega)
            go_upto_region 6 with fail
            clear ck j0 j1
            obtain ⟨q0, e0⟩ : ∃ x, x = wr.drew := ⟨_, rfl⟩
            have K0 := Lib.hid (show Below wr.heap.size wr q0 from by rw [e0]; exact (Below.refl _ _).drew)
            have F0 := HPS.out q0 K0.out
            have HE0 := Lib.hid e0
            clear e0
            refine AnyT.begin_at tlN (fun Y => Y.cell? ⟨b, 0, none⟩ = some (.slice A L c) ∧ Y.cell? ⟨b, 1, none⟩ = some (.int .i64 wt) ∧ Y.cell? (ad.add k) = some (.int .i64 (q : Int))) (by kernel_rfl) HE0.out F0 ?_
            clear F0
            intro F0
-- TAKES C6
            refine AnyT.takeD (i := 0) (d := some 23) (v := .int .i64 ((k : Int) + 1)) rfl rfl (by kernel_rfl) (by kernel_rfl) (by kernel_rfl) (by kernel_rfl) (fun _ _ _ h => h) (Or.inl ⟨by rfl, fun wz _ => by go_simp⟩) F0 ?_
            simp only [Act.put, List.setIfInBounds_toArray, List.set_cons_zero, List.set_cons_succ]
            refine AnyT.takeD (i := 1) (d := some 24) (v := .bool true) rfl rfl (by kernel_rfl) (by kernel_rfl) (by kernel_rfl) (by kernel_rfl) (fun _ _ _ h => h) (Or.inl ⟨by rfl, fun wz _ => by go_simp⟩) F0 ?_
            simp only [Act.put, List.setIfInBounds_toArray, List.set_cons_zero, List.set_cons_succ]
            refine AnyT.takeD (i := 2) (d := some 25) (v := .bool true) rfl rfl (by kernel_rfl) (by kernel_rfl) (by kernel_rfl) (by kernel_rfl) (fun _ _ _ h => h) (Or.inl ⟨by rfl, fun wz _ => by go_simp⟩) F0 ?_
            simp only [Act.put, List.setIfInBounds_toArray, List.set_cons_zero, List.set_cons_succ]
            refine AnyT.takeD (i := 3) (d := some 26) (v := jv A L c wt) rfl rfl (by kernel_rfl) (by kernel_rfl) (by kernel_rfl) (by kernel_rfl) (fun _ _ _ h => h) (Or.inl ⟨by rfl, fun wz hz => by obtain ⟨z0, z1, z2⟩ := hz; go_simp⟩) F0 ?_
            simp only [Act.put, List.setIfInBounds_toArray, List.set_cons_zero, List.set_cons_succ]
            refine AnyT.takeD (i := 4) (d := some 27) (v := .slice (some ad) n cc) rfl rfl (by kernel_rfl) (by kernel_rfl) (by kernel_rfl) (by kernel_rfl) (fun _ _ _ h => h) (Or.inl ⟨by rfl, fun wz _ => by go_simp⟩) F0 ?_
            simp only [Act.put, List.setIfInBounds_toArray, List.set_cons_zero, List.set_cons_succ]
            refine AnyT.takeD (i := 5) (d := some 28) (v := .int .i64 ((k : Int) + 1)) rfl rfl (by kernel_rfl) (by kernel_rfl) (by kernel_rfl) (by kernel_rfl) (fun _ _ _ h => h) (Or.inl ⟨by rfl, fun wz _ => by go_simp⟩) F0 ?_
            simp only [Act.put, List.setIfInBounds_toArray, List.set_cons_zero, List.set_cons_succ]
            refine AnyT.takeD (i := 6) (d := some 29) (v := .int .i64 (k : Int)) rfl rfl (by kernel_rfl) (by kernel_rfl) (by kernel_rfl) (by kernel_rfl) (fun _ _ _ h => h) (Or.inl ⟨by rfl, fun wz _ => by go_simp⟩) F0 ?_
            simp only [Act.put, List.setIfInBounds_toArray, List.set_cons_zero, List.set_cons_succ]
            refine AnyT.takeD (i := 7) (d := some 30) (v := .pointer (some (ad.add k))) rfl rfl (by kernel_rfl) (by kernel_rfl) (by kernel_rfl) (by kernel_rfl) (fun _ _ _ h => h) (Or.inl ⟨by rfl, fun wz _ => by go_simp⟩) F0 ?_
            simp only [Act.put, List.setIfInBounds_toArray, List.set_cons_zero, List.set_cons_succ]
            refine AnyT.takeD (i := 8) (d := some 31) (v := .int .i64 (q : Int)) rfl rfl (by kernel_rfl) (by kernel_rfl) (by kernel_rfl) (by kernel_rfl) (fun _ _ _ h => h) (Or.inl ⟨by rfl, fun wz hz => by obtain ⟨z0, z1, z2⟩ := hz; go_simp⟩) F0 ?_
            simp only [Act.put, List.setIfInBounds_toArray, List.set_cons_zero, List.set_cons_succ]
            refine AnyT.takeD (i := 9) (d := some 32) (v := .int .i64 (X : Int)) rfl rfl (by kernel_rfl) (by kernel_rfl) (by kernel_rfl) (by kernel_rfl) (fun _ _ _ h => h) (Or.inl ⟨by rfl, fun wz _ => by go_simp⟩) F0 ?_
            simp only [Act.put, List.setIfInBounds_toArray, List.set_cons_zero, List.set_cons_succ]
            -- TAKEN C6
            refine AnyT.branch (rs := [10]) (by kernel_rfl) (by simp) ?_
            refine all_cons (?_) all_nil
            refine AnyT.enterG (i := 10) (d := some 33) (f := 158) (args := #[jv A L c wt, .int .i64 (q : Int), .int .i64 (X : Int)]) rfl (by rfl) rfl (by go_simp) (HR.out q0 (HI.out.below (BW.out.trans (K0.out.mono BW.out.size)))) ?_
            rintro e q1 ⟨rfl, hB1⟩
            have K1 := Lib.hid (K0.out.trans (hB1.mono K0.out.size))
            have F1 := HPS.out q1 K1.out
            refine ⟨_, rfl, fun _ => F1, ?_⟩
            clear hB1 F0
            simp only [Act.put, List.setIfInBounds_toArray, List.set_cons_zero, List.set_cons_succ]
            refine AnyT.takeD (i := 11) (d := some 34) (v := .bool (r == 0)) rfl rfl (by kernel_rfl) (by kernel_rfl) (by kernel_rfl) (by kernel_rfl) (fun _ _ _ h => h) (Or.inl ⟨by rfl, fun wz _ => by go_simp⟩) F1 ?_
            simp only [Act.put, List.setIfInBounds_toArray, List.set_cons_zero, List.set_cons_succ]
            refine AnyT.takeD (i := 12) (d := some 35) (v := .bool (r == 0)) rfl rfl (by kernel_rfl) (by kernel_rfl) (by kernel_rfl) (by kernel_rfl) (fun _ _ _ h => h) (Or.inl ⟨by rfl, fun wz _ => by go_simp⟩) F1 ?_
            simp only [Act.put, List.setIfInBounds_toArray, List.set_cons_zero, List.set_cons_succ]
            refine AnyT.done_ (by kernel_rfl) ?_ _
            have BR1 := Lib.hid (BR.out.trans (K1.out.mono BR.out.size))
            have BW1 := Lib.hid (B0.out.trans (BR1.out.mono B0.out.size))
            clear F1 HPS HE0 K0 K1 HR
            by_cases hr0 : r = 0
            · have HF := Lib.hid (show false = chB l none cs by rw [HP.out, if_pos (by rw [← HRR.out]; exact hr0)])
              have hb : (r == 0) = true := by rw [hr0]; rfl
              rw [hb]
              clear hr0 hb
              go_wp2_with fail
              go_ret
              exact ⟨ret_bool HF.out, BW1.out⟩
            · have hb : (r == 0) = false := beq_eq_false_iff_ne.2 hr0
              have HP2 := Lib.hid (show ∃ p, chB l none cs = chB l p (cs.drop (k + 1 + 1)) ∧ (k + 1 + 1 = 0 → p = none) ∧ (0 < k + 1 + 1 → ∃ q : Nat, p = some q ∧ q < L ∧ cs.getD (k + 1 + 1 - 1) 0 = (q : Int)) from by
                have hp := HP.out
                rw [if_neg (by rw [← HRR.out]; exact hr0)] at hp
                exact ⟨_, hp, (fun h => by omega), fun _ => ⟨X, rfl, hX, HX.out.symm⟩⟩)
              rw [hb]
              clear hr0 hb
              go_wp2_with fail
              go_roundw
              case rel => exact ⟨k + 1 + 1, by omega, by go_num, HP2, BR1⟩
              case measure => simp [intOf]; omega
        · obtain ⟨p, hp, _⟩ := P.out
          have HF := Lib.hid (show false = chB l none cs by rw [hp, HD.out, chB_bad (by rw [← HL.out]; omega)])
          clear hp
          go_wp2_with fail
          go_ret
          exact ⟨ret_bool HF.out, BW.out⟩
    · have hkn : k = n := by omega
      subst hkn
      obtain ⟨p, hp, _⟩ := P.out
      have HF := Lib.hid (show true = chB l none cs by rw [hp, HN.out, List.drop_length]; cases p <;> rfl)
      have BW := Lib.hid (B0.out.trans (BR.out.mono B0.out.size))
      clear hp P
      go_wp2_with fail
      go_ret
      exact ⟨ret_bool HF.out, BW.out⟩
end Go.Proofs.YtimkmieohkefiaaGreat

namespace Go.Proofs.YtimkmieohkefiaaGreat
open Go.RowKit Go.Lib

set_option maxRecDepth 100000 in
set_option maxHeartbeats 3200000 in
theorem bound_any (l : List It) (A C : Option Addr) (c cc L n : Nat) (wt : Int) (hL : L = l.length) (cs : List Int) (hn : n = cs.length) (hm : n ≤ maxLen) (w : World) (hi : IRow w A l) (hc : Row .i64 w w.heap.size C cs) :
    Calls Tryz.prog 88 #[jv A L c wt, .slice C n cc] w fun e w' => e = .returned (R2 (boundE l wt cs)) ∧ Below w.heap.size w w' := by
  have hm' : n ≤ 9223372036854775807 := hm
  have HI := Lib.hid hi
  have HC := Lib.hid hc
  have HL := Lib.hid hL
  have HN := Lib.hid hn
  have HM := Lib.hid hm
  have HVL := Lib.hid (fun (W : World) (k : IRow W A l) => valid_any l A c wt W k)
  rw [← hL] at HVL
  have HE := Lib.hid (show boundE l wt cs = if validR l wt ≠ 0 then (0, validR l wt) else if chB l none cs = true then bnd l wt none 0 (cs.map Int.toNat) else (0, 1) from rfl)
  have J0 := Lib.hid (JBox.new (w := w) (A := A) (n := L) (c := c) (wt := wt) w.heap.size rfl)
  have B0 := Lib.hid ((Below.refl w.heap.size w).alloc (Nat.le_refl _) (.cells #[.slice A L c, .int .i64 wt] 37))
  obtain ⟨b, hb⟩ : ∃ b, b = w.heap.size := ⟨_, rfl⟩
  clear hi hc hL hn hm
  go_enter Tryz.func88, Tryz.ntmps88
  go_upto_region 1 with fail
  rw [← hb] at J0 ⊢
  generalize w.alloc (.cells #[.slice A L c, .int .i64 wt] 37) = w1 at *
  clear hb
  obtain ⟨j0, j1, jl⟩ := J0.out
  go_wp2_with fail
  refine (HVL.out w1 (HI.out.below B0.out)).mono ?_
  rintro e w2 ⟨rfl, hB2⟩
  have J2 := Lib.hid (J0.out.below hB2 jl)
  have B2 := Lib.hid (B0.out.trans (hB2.mono B0.out.size))
  clear j0 j1 jl J0 B0 hB2 HVL
  obtain ⟨j0, j1, jl⟩ := J2.out
  by_cases he : validR l wt = 0
  · have HV := Lib.hid he
    have hE := HE.out
    rw [if_neg (fun g => g he)] at hE
    have HCH := Lib.hid (isChain_any l A C c cc L n wt HL.out he cs HN.out HM.out w2 (HI.out.below B2.out) (HC.out.below B2.out))
    rw [he]
    clear he HE
    go_wp2_with fail
    refine HCH.out.mono ?_
    rintro e w3 ⟨rfl, hB3⟩
    have J3 := Lib.hid (J2.out.below hB3 jl)
    have B3 := Lib.hid (B2.out.trans (hB3.mono B2.out.size))
    clear j0 j1 jl J2 B2 hB3 HCH
    cases hch : chB l none cs with
    | false =>
      rw [hch, if_neg (by decide)] at hE
      have HE := Lib.hid hE
      clear hE hch
      go_wp2_with fail
      go_ret2
      exact ⟨ret_r2 HE.out, B3.out⟩
    | true =>
      rw [hch, if_pos rfl] at hE
      obtain ⟨d, hd, hcd⟩ := chB_iff.1 hch
      have HE := Lib.hid (show boundE l wt cs = bnd l wt none 0 d by rw [hE, hd, map_toZ])
      have HD := Lib.hid hd
      have HAT := Lib.hid (chn_at hcd)
      have HF := Lib.hid (formOk_of HV.out)
      have hnd : n = d.length := by rw [HN.out, hd, toZ_len]
      have HND := Lib.hid hnd
      have hL96 : L ≤ 96 := by have := (valid_ok HV.out).1; have := HL.out; omega
      clear hE hch hd hcd hnd
      go_wp2_with fail
      go_loopw [7, 23] (fun mv iv wr => ∃ (k : Nat) (m : Int), k ≤ n ∧ iv = .int .i64 (k : Int) ∧ mv = .int .i64 m ∧ (0 ≤ m ∧ m ≤ 4095) ∧ Hid ((k = 0 → m = 0) ∧ boundE l wt cs = bnd l wt (prv d k) m (d.drop k)) ∧ Hid (Below w3.heap.size w3 wr)) (fun _ iv _ => n - (intOf iv).toNat)
      case atStart => exact ⟨0, 0, by omega, rfl, rfl, by omega, Lib.hid ⟨fun _ => rfl, HE.out⟩, Lib.hid (Below.refl _ _)⟩
      case round =>
        obtain ⟨k, m, hk, rfl, rfl, hmb, P, BR⟩ := hrel
        have BW := Lib.hid (B3.out.trans (BR.out.mono B3.out.size))
        by_cases hlt : k < n
        · obtain ⟨ad, rfl, _, ck⟩ := (HC.out.below BW.out) k (by rw [← HN.out]; exact hlt)
          obtain ⟨at1, at2⟩ := HAT.out k (by rw [← HND.out]; exact hlt)
          have HA2 := Lib.hid at2
          obtain ⟨Y, hY⟩ : ∃ x, x = d.getD k 0 := ⟨_, rfl⟩
          have HYY := Lib.hid hY
          rw [HD.out, toZ_at _ (by rw [← HND.out]; exact hlt), ← hY] at ck
          rw [← hY] at at1
          have hYL : Y < L := by rw [HL.out]; exact at1
          have hYi : (Y : Int) < (L : Int) := by omega
          have hki : (k : Int) < (n : Int) := by omega
          obtain ⟨M', hM'⟩ : ∃ M', M' = if k = 0 then 0 else vk (rel l (d.getD (k - 1) 0) (d.getD k 0)) m := ⟨_, rfl⟩
          have HST := Lib.hid (bnd_step (l := l) (wt := wt) (d := d) (k := k) (m := m) (by rw [← HND.out]; exact hlt) P.out.1 hM' HA2.out)
          rw [← hY] at HST
          have hMb : 0 ≤ M' ∧ M' ≤ 4096 := by
            rw [hM']
            split
            · omega
            · have := vk_bd (r := rel l (d.getD (k - 1) 0) (d.getD k 0)) hmb.1; omega
          have HEQ := Lib.hid P.out.2
          have HK0 := Lib.hid P.out.1
          have HMM := Lib.hid hM'
          clear at1 at2 hY hM' P
          obtain ⟨j0, j1, jl⟩ := (J3.out.below BR.out J3.out.lt)
          go_upto_if 29 with fail
          go_cut [7] from 30 to 38 (fun mv wx => mv = .int .i64 M' ∧ Hid (Below w3.heap.size w3 wx))
          case first =>
            cases k with
            | zero =>
              have hm0 := HMM.out
              rw [if_pos rfl] at hm0
              have hm1 := HK0.out rfl
              subst hm0
              subst hm1
              clear HK0 HMM HST HEQ
              go_wp2_with fail
              go_meet
              case rel => exact ⟨rfl, BR⟩
            | succ k =>
              have hm0 := HMM.out
              rw [if_neg (by omega)] at hm0
              replace hm0 : M' = vk (rel l (d.getD k 0) (d.getD (k + 1) 0)) m := hm0
              rw [← HYY.out] at hm0
              obtain ⟨ad', e', _, cq⟩ := (HC.out.below BW.out) k (by rw [← HN.out]; omega)
              obtain rfl : ad = ad' := by injection e'
              rw [HD.out, toZ_at _ (by rw [← HND.out]; omega)] at cq
              obtain ⟨hX1, -⟩ := HAT.out k (by rw [← HND.out]; omega)
              obtain ⟨X, hX⟩ : ∃ x, x = d.getD k 0 := ⟨_, rfl⟩
              rw [← hX] at cq hm0 hX1
              have HLB := Lib.hid (fun (W : World) (kb : Below wr.heap.size wr W) => lb_any l A c L wt HL.out HV.out X Y m (by omega) (by rw [HL.out]; exact hX1) hYL W (HI.out.below (BW.out.trans (kb.mono BW.out.size))))
              rw [← hm0] at HLB
              have ltq := lt_of_cell cq
              have HPS := Lib.hid (fun (Z : World) (hZ : Below wr.heap.size wr Z) => (show Z.cell? ⟨b, 0, none⟩ = some (.slice A L c) ∧ Z.cell? ⟨b, 1, none⟩ = some (.int .i64 wt) ∧ Z.cell? (ad.add k) = some (.int .i64 (X : Int)) from
                ⟨(hZ.cell (p := ⟨b, 0, none⟩) jl).trans j0, (hZ.cell (p := ⟨b, 1, none⟩) jl).trans j1, (hZ.cell ltq).trans cq⟩))
              have hk1 : (k : Int) + 1 - 1 = (k : Int) := by omega
              have hwr : IntKind.i64.wrap ((k : Int) + 1 - 1) = (k : Int) := by rw [IntWalk.i64_in _ (by omega)]; omega
              have hwk : IntKind.i64.wrap (k : Int) = (k : Int) := IntWalk.i64_in _ (by omega)
              have hkn : (k : Int) < (n : Int) := by omega
              rw [add_sc] at ck
              clear hm0 e' hX hX1 ltq cq HK0 HMM HST HEQ
              go_upto_region 11 with fail
              clear ck j0 j1
              obtain ⟨q0, e0⟩ : ∃ x, x = wr.drew := ⟨_, rfl⟩
              have K0 := Lib.hid (show Below wr.heap.size wr q0 from by rw [e0]; exact (Below.refl _ _).drew)
              have F0 := HPS.out q0 K0.out
              have HE0 := Lib.hid e0
              clear e0
              refine AnyT.begin_at tlN (fun Z => Z.cell? ⟨b, 0, none⟩ = some (.slice A L c) ∧ Z.cell? ⟨b, 1, none⟩ = some (.int .i64 wt) ∧ Z.cell? (ad.add k) = some (.int .i64 (X : Int))) (by kernel_rfl) HE0.out F0 ?_
              clear F0
              intro F0
-- TAKES B11
              refine AnyT.takeD (i := 0) (d := some 30) (v := jv A L c wt) rfl rfl (by kernel_rfl) (by kernel_rfl) (by kernel_rfl) (by kernel_rfl) (fun _ _ _ h => h) (Or.inl ⟨by rfl, fun wz hz => by obtain ⟨z0, z1, z2⟩ := hz; go_simp⟩) F0 ?_
              simp only [Act.put, List.setIfInBounds_toArray, List.set_cons_zero, List.set_cons_succ]
              refine AnyT.takeD (i := 1) (d := some 31) (v := .slice (some ad) n cc) rfl rfl (by kernel_rfl) (by kernel_rfl) (by kernel_rfl) (by kernel_rfl) (fun _ _ _ h => h) (Or.inl ⟨by rfl, fun wz _ => by go_simp⟩) F0 ?_
              simp only [Act.put, List.setIfInBounds_toArray, List.set_cons_zero, List.set_cons_succ]
              refine AnyT.takeD (i := 2) (d := some 32) (v := .int .i64 ((k : Int) + 1)) rfl rfl (by kernel_rfl) (by kernel_rfl) (by kernel_rfl) (by kernel_rfl) (fun _ _ _ h => h) (Or.inl ⟨by rfl, fun wz _ => by go_simp⟩) F0 ?_
              simp only [Act.put, List.setIfInBounds_toArray, List.set_cons_zero, List.set_cons_succ]
              refine AnyT.takeD (i := 3) (d := some 33) (v := .int .i64 (k : Int)) rfl rfl (by kernel_rfl) (by kernel_rfl) (by kernel_rfl) (by kernel_rfl) (fun _ _ _ h => h) (Or.inl ⟨by rfl, fun wz _ => by go_simp⟩) F0 ?_
              simp only [Act.put, List.setIfInBounds_toArray, List.set_cons_zero, List.set_cons_succ]
              refine AnyT.takeD (i := 4) (d := some 34) (v := .pointer (some (ad.add k))) rfl rfl (by kernel_rfl) (by kernel_rfl) (by kernel_rfl) (by kernel_rfl) (fun _ _ _ h => h) (Or.inl ⟨by rfl, fun wz _ => by go_simp⟩) F0 ?_
              simp only [Act.put, List.setIfInBounds_toArray, List.set_cons_zero, List.set_cons_succ]
              refine AnyT.takeD (i := 5) (d := some 35) (v := .int .i64 (X : Int)) rfl rfl (by kernel_rfl) (by kernel_rfl) (by kernel_rfl) (by kernel_rfl) (fun _ _ _ h => h) (Or.inl ⟨by rfl, fun wz hz => by obtain ⟨z0, z1, z2⟩ := hz; go_simp⟩) F0 ?_
              simp only [Act.put, List.setIfInBounds_toArray, List.set_cons_zero, List.set_cons_succ]
              refine AnyT.takeD (i := 6) (d := some 36) (v := .int .i64 m) rfl rfl (by kernel_rfl) (by kernel_rfl) (by kernel_rfl) (by kernel_rfl) (fun _ _ _ h => h) (Or.inl ⟨by rfl, fun wz _ => by go_simp⟩) F0 ?_
              simp only [Act.put, List.setIfInBounds_toArray, List.set_cons_zero, List.set_cons_succ]
              refine AnyT.takeD (i := 7) (d := some 37) (v := .int .i64 (Y : Int)) rfl rfl (by kernel_rfl) (by kernel_rfl) (by kernel_rfl) (by kernel_rfl) (fun _ _ _ h => h) (Or.inl ⟨by rfl, fun wz _ => by go_simp⟩) F0 ?_
              simp only [Act.put, List.setIfInBounds_toArray, List.set_cons_zero, List.set_cons_succ]
              -- TAKEN B11
              refine AnyT.branch (rs := [8]) (by kernel_rfl) (by simp) ?_
              refine all_cons (?_) all_nil
              refine AnyT.enter (i := 8) (d := some 38) (f := 133) (args := #[jv A L c wt, .int .i64 (X : Int), .int .i64 m, .int .i64 (Y : Int)]) rfl rfl rfl (by go_simp) (HLB.out q0 K0.out) ?_
              rintro e q1 ⟨rfl, hB1⟩
              have K1 := Lib.hid (K0.out.trans (hB1.mono K0.out.size))
              have F1 := HPS.out q1 K1.out
              refine ⟨_, rfl, fun _ => F1, ?_⟩
              clear hB1 F0
              simp only [Act.put, List.setIfInBounds_toArray, List.set_cons_zero, List.set_cons_succ]
              refine AnyT.takeD (i := 9) (d := some 7) (v := .int .i64 M') rfl rfl (by kernel_rfl) (by kernel_rfl) (by kernel_rfl) (by kernel_rfl) (fun _ _ _ h => h) (Or.inl ⟨by rfl, fun wz _ => by go_simp⟩) F1 ?_
              simp only [Act.put, List.setIfInBounds_toArray, List.set_cons_zero, List.set_cons_succ]
              refine AnyT.done_ (by kernel_rfl) ?_ _
              have BR1 := Lib.hid (BR.out.trans (K1.out.mono BR.out.size))
              clear F1 HPS HE0 K0 K1 HLB
              go_wp2_with fail
              go_meet
              case rel => exact ⟨rfl, BR1⟩
          case rest =>
            clear ck j0 j1 jl BW BR HMM
            obtain ⟨rfl, BR⟩ := hcut
            have BW := Lib.hid (B3.out.trans (BR.out.mono B3.out.size))
            obtain ⟨j0, j1, jl⟩ := (J3.out.below BR.out J3.out.lt)
            obtain ⟨aA, rfl, CE⟩ := (HI.out.below BW.out).at_ Y (by rw [← HL.out]; exact hYL)
            obtain ⟨-, -, r2, -⟩ := CE.spelt
            replace r2 : wc.cell? ⟨(aA.add (Y * 4)).block, (aA.add (Y * 4)).off + 2, none⟩ = some (.int .i64 (rnd l Y)) := r2
            have NR := Lib.hid (fun W => next_code M' (rnd l Y) wt W (by omega))
            have HNX := Lib.hid (fun (kk : Int) => next_bd (n := M') (r := rnd l Y) (wt := wt) (k := kk) hMb.1 (HF.out.rb Y (by rw [← HL.out]; exact hYL)) HF.out.wb)
            obtain ⟨⟨kk, er⟩, hnz⟩ : ∃ t, t = nextZ M' (rnd l Y) wt := ⟨_, rfl⟩
            have HNZ := Lib.hid hnz
            rw [← hnz] at NR HNX
            have hst := HST.out
            rw [← hnz] at hst
            have HST := Lib.hid hst
            clear hnz hst CE
            go_wp2_with fail
            go_quiet ((go_at_call 134; exact Calls.quiet_of_same ((NR.out _).mono fun _ _ h => ⟨h.1, h.2.symm⟩)))
            clear j0 j1 jl r2
            by_cases hez : er = 0
            · subst hez
              have hbd := HNX.out kk rfl
              have HP2 := Lib.hid (show (k + 1 = 0 → kk = 0) ∧ boundE l wt cs = bnd l wt (prv d (k + 1)) kk (d.drop (k + 1)) from ⟨fun h => by omega, by rw [HEQ.out, HST.out, if_pos rfl]⟩)
              clear HST HNX NR HNZ
              go_wp2_with fail
              go_roundw
              case rel => exact ⟨k + 1, kk, by omega, by go_num, rfl, by omega, HP2, Lib.hid (bdn BR.out)⟩
              case measure => simp [intOf]; omega
            · have HEE := Lib.hid (show boundE l wt cs = (0, er) by rw [HEQ.out, HST.out, if_neg hez])
              have hne : (er != 0) = true := bne_iff_ne.2 hez
              clear HST HNX NR HNZ hez
              go_wp2_with fail
              go_ret2
              exact ⟨ret_r2 HEE.out, bdn BW.out⟩
        · have hkn : k = n := by omega
          subst hkn
          have HEE := Lib.hid (show boundE l wt cs = (m, 0) by rw [P.out.2, HND.out, List.drop_length, bnd_nil])
          clear P
          go_wp2_with fail
          go_ret2
          exact ⟨ret_r2 HEE.out, BW.out⟩
  · have hE := HE.out
    rw [if_pos he] at hE
    have HEE := Lib.hid hE
    have hne : (validR l wt != 0) = true := bne_iff_ne.2 he
    clear he hE HE
    go_wp2_with fail
    go_ret2
    exact ⟨ret_r2 HEE.out, B2.out⟩
end Go.Proofs.YtimkmieohkefiaaGreat

namespace Go.Proofs.YtimkmieohkefiaaGreat
open Go.RowKit Go.Lib

/-- 1 if strictly before. -/
def str1 (l : List It) (x y : Nat) : Int := if rel l x y = 2 then 1 else 0
theorem via_str {l : List It} {v : List Int} {x y : Nat} (h : rel l x y ≠ 0) : via l v x y = v.getD x 0 + str1 l x y := by
  rw [via_pos h]; unfold str1
  rcases rel_cases l x y with e | e | e
  · exact absurd e h
  · rw [e, if_neg (by decide)]; omega
  · rw [e, if_pos rfl]; omega
end Go.Proofs.YtimkmieohkefiaaGreat

namespace Go.Proofs.YtimkmieohkefiaaGreat
open Go.RowKit Go.Lib

/-- Whether the codes have the order that the items need. -/
def ordA (l : List It) (v : List Int) (x y : Nat) : Bool := decide (rel l x y = 0) || decide (v.getD x 0 + str1 l x y ≤ v.getD y 0)
def ordB (l : List It) (v : List Int) : Bool := (List.range l.length).all fun x => (List.range l.length).all fun y => ordA l v x y
theorem ordB_iff {l : List It} {v : List Int} : ordB l v = true ↔ ∀ x, x < l.length → ∀ y, y < l.length → ordA l v x y = true := by
  unfold ordB
  simp only [List.all_eq_true, List.mem_range]
theorem ordB_no {l : List It} {v : List Int} {x y : Nat} (hx : x < l.length) (hy : y < l.length) (h : ordA l v x y = false) : ordB l v = false :=
  Bool.eq_false_iff.2 fun k => by have := ordB_iff.1 k x hx y hy; rw [h] at this; cases this
theorem ordA_zero {l : List It} {v : List Int} {x y : Nat} (h : rel l x y = 0) : ordA l v x y = true := by unfold ordA; rw [decide_eq_true h]; rfl
theorem ordA_one {l : List It} {v : List Int} {x y : Nat} (h : rel l x y = 1) : ordA l v x y = decide (v.getD x 0 ≤ v.getD y 0) := by
  unfold ordA str1; rw [h, if_neg (by decide), Int.add_zero]; rfl
theorem ordA_two {l : List It} {v : List Int} {x y : Nat} (h : rel l x y = 2) : ordA l v x y = decide (v.getD x 0 + 1 ≤ v.getD y 0) := by
  unfold ordA str1; rw [h, if_pos rfl]; rfl
/-- What Check answers. -/
def chkE (l : List It) (wt st : Int) (v ch : List Int) : Int :=
  if val14 l wt st v ≠ 0 then val14 l wt st v else if ordB l v = false then 12 else if (boundE l wt ch).2 ≠ 0 then (boundE l wt ch).2 else if (stepsZ (boundE l wt ch).1).1 = st then 0 else 17
theorem val14_ok {l : List It} {wt st : Int} {v : List Int} (h : val14 l wt st v = 0) : validR l wt = 0 ∧ (0 ≤ st ∧ st ≤ 12) ∧ v.length = l.length ∧ ∀ x, x < l.length → 0 ≤ v.getD x 0 ∧ v.getD x 0 ≤ 4095 := by
  unfold val14 at h
  by_cases hv : validR l wt = 0
  · rw [if_pos hv] at h
    by_cases hf : fitB l wt st v = true
    · obtain ⟨a, b, c⟩ := fitB_iff.1 hf
      refine ⟨hv, a, b, fun x hx => ?_⟩
      have := c x hx
      unfold okC at this
      rw [Bool.and_eq_true, decide_eq_true_eq] at this
      obtain ⟨h1, h2⟩ := this
      refine ⟨?_, ?_⟩
      · unfold isZ at h2
        rw [Bool.and_eq_true, Bool.and_eq_true] at h2
        have h3 := h2.2.1
        unfold cdB at h3
        generalize v.getD x 0 = z at *
        simp at h3
        omega
      · obtain ⟨S, rfl⟩ := Int.eq_ofNat_of_zero_le a.1
        have := pow_le4096 (show S ≤ 12 by omega)
        have e : ((2 : Int) ^ ((S : Int)).toNat) = ((2 ^ S : Nat) : Int) := by simp
        rw [e] at h1
        omega
    · rw [if_neg hf] at h; cases h
  · rw [if_neg hv] at h; exact absurd h hv

set_option maxRecDepth 100000 in
set_option maxHeartbeats 1600000 in
theorem inorder_any (l : List It) (A : Option Addr) (c L : Nat) (wt : Int) (v : List Int) (V : Option Addr) (n d : Nat) (hL : L = l.length) (hn : n = L) (hv : validR l wt = 0) (hvl : v.length = l.length) (hvb : ∀ x, x < l.length → 0 ≤ v.getD x 0 ∧ v.getD x 0 ≤ 4095) (w : World) (h : IRow w A l) (hr : Row .i64 w w.heap.size V v) :
    Calls Tryz.prog 87 #[jv A L c wt, .slice V n d] w fun e w' => e = .returned (.bool (ordB l v)) ∧ Below w.heap.size w w' := by
  have hl : L ≤ 96 := by rw [hL]; exact (valid_ok hv).1
  subst hn
  have J0 := Lib.hid (JBox.new (w := w) (A := A) (n := n) (c := c) (wt := wt) w.heap.size rfl)
  have B0 := Lib.hid ((Below.refl w.heap.size w).alloc (Nat.le_refl _) (.cells #[.slice A n c, .int .i64 wt] 37))
  have HI := Lib.hid (h.below B0.out)
  have HR := Lib.hid (hr.below B0.out)
  have HL := Lib.hid hL
  have HVL := Lib.hid hvl
  have HVB := Lib.hid hvb
  have HRE := Lib.hid (fun (x y : Nat) (hx : x < l.length) (hy : y < l.length) (W : World) (k : IRow W A l) => (show Calls Tryz.prog 131 #[jv A l.length c wt, .int .i64 (x : Int), .int .i64 (y : Int)] W (fun e w' => e = .returned (R2 (rel l x y, 0)) ∧ Below W.heap.size W w') from (relationF_any l A c wt x y W k).mono fun e w' q => by
    obtain ⟨q1, q2⟩ := q
    rw [relE_ok hv hx hy] at q1
    exact ⟨q1, q2⟩))
  rw [← hL] at HRE
  obtain ⟨b, hb⟩ : ∃ b, b = w.heap.size := ⟨_, rfl⟩
  clear h hr hL hv hvl hvb
  go_enter Tryz.func87, Tryz.ntmps87
  go_upto_region 1 with fail
  rw [← hb] at J0 ⊢
  generalize w.alloc (.cells #[.slice A n c, .int .i64 wt] 37) = w1 at *
  clear hb
  go_wp2_with fail
  go_loopw [13] (fun iv wr => ∃ k : Nat, k ≤ n ∧ iv = .int .i64 (k : Int) ∧ Hid (∀ x, x < k → ∀ y, y < n → ordA l v x y = true) ∧ Hid (Below w1.heap.size w1 wr)) (fun iv _ => n - (intOf iv).toNat)
  case atStart => exact ⟨0, by omega, rfl, Lib.hid (fun x hx => absurd hx (Nat.not_lt_zero _)), Lib.hid (Below.refl _ _)⟩
  case round =>
    obtain ⟨k, hk, rfl, F, W⟩ := hrel
    by_cases hlt : k < n
    · have hki : (k : Int) < (n : Int) := by omega
      have hkl : k < v.length := by rw [HVL.out, ← HL.out]; exact hlt
      obtain ⟨pad, rfl, plt, cp⟩ := (HR.out.below W.out) k hkl
      have HZ := Lib.hid (HVB.out k (by rw [← HL.out]; exact hlt))
      generalize hkv : v.getD k 0 = kv at *
      have HKV := Lib.hid hkv
      clear hkv
      go_wp2_with fail
      clear cp plt
      generalize wr = wo at *
      go_loopw [20] (fun jv' wr => ∃ j : Nat, j ≤ n ∧ jv' = .int .i64 (j : Int) ∧ Hid (∀ y, y < j → ordA l v k y = true) ∧ Hid (Below w1.heap.size w1 wr)) (fun jv' _ => n - (intOf jv').toNat)
      case atStart => exact ⟨0, by omega, rfl, Lib.hid (fun y hy => absurd hy (Nat.not_lt_zero _)), W⟩
      case round =>
        clear W
        obtain ⟨j, hj, rfl, G, W⟩ := hrel
        by_cases hlj : j < n
        · have hji : (j : Int) < (n : Int) := by omega
          have hjl : j < v.length := by rw [HVL.out, ← HL.out]; exact hlj
          obtain ⟨pad, e, plt, cp⟩ := (HR.out.below W.out) j hjl
          injection e with e
          subst e
          obtain ⟨y0, y1⟩ := HVB.out j (by rw [← HL.out]; exact hlj)
          obtain ⟨z0, z1⟩ := HZ.out
          have HC := Lib.hid (HRE.out k j hlt hlj wr (HI.out.below W.out))
          have J2 := J0.out.below W.out J0.out.lt
          obtain ⟨j0, j1, jl⟩ := J2
          have H0 := Lib.hid (fun q => ordA_zero (v := v) (x := k) (y := j) (l := l) q)
          have H1 := Lib.hid (fun q => ordA_one (v := v) (x := k) (y := j) (l := l) q)
          have H2 := Lib.hid (fun q => ordA_two (v := v) (x := k) (y := j) (l := l) q)
          rw [HKV.out] at H1 H2
          have HN := Lib.hid (fun q => ordB_no (l := l) (v := v) (x := k) (y := j) (by rw [← HL.out]; exact hlt) (by rw [← HL.out]; exact hlj) q)
          have HG := Lib.hid (fun (q : ordA l v k j = true) => show ∀ y, y < j + 1 → ordA l v k y = true from fun y hy => by
            rcases Nat.lt_or_ge y j with r | r
            · exact G.out y r
            · obtain rfl : y = j := by omega
              exact q)
          generalize v.getD j 0 = jw at *
          have hrc := rel_cases l k j
          generalize rel l k j = r at *
          go_wp2_with fail
          refine HC.out.mono ?_
          rintro e w3 ⟨rfl, B3⟩
          have W3 := Lib.hid (W.out.trans (B3.mono W.out.size))
          clear B3 j0 j1 jl cp plt HC
          rcases hrc with rfl | rfl | rfl
          · have HG2 := Lib.hid (HG.out (H0.out rfl))
            clear HG H0 H1 H2 HN
            go_wp2_with fail
            go_roundw
            case rel => exact ⟨j + 1, by omega, by go_num, HG2, W3⟩
            case measure => simp [intOf]; omega
          · by_cases hgt : jw < kv
            · have HNN := Lib.hid (HN.out (by rw [H1.out rfl, decide_eq_false (by omega)]))
              clear HG H0 H1 H2 HN
              go_wp2_with fail
              go_ret
              exact ⟨ret_bool HNN.out.symm, B0.out.trans (W3.out.mono B0.out.size)⟩
            · have HG2 := Lib.hid (HG.out (by rw [H1.out rfl, decide_eq_true (by omega)]))
              clear HG H0 H1 H2 HN
              go_wp2_with fail
              go_roundw
              case rel => exact ⟨j + 1, by omega, by go_num, HG2, W3⟩
              case measure => simp [intOf]; omega
          · by_cases hgt : jw < kv + 1
            · have HNN := Lib.hid (HN.out (by rw [H2.out rfl, decide_eq_false (by omega)]))
              clear HG H0 H1 H2 HN
              go_wp2_with fail
              go_ret
              exact ⟨ret_bool HNN.out.symm, B0.out.trans (W3.out.mono B0.out.size)⟩
            · have HG2 := Lib.hid (HG.out (by rw [H2.out rfl, decide_eq_true (by omega)]))
              clear HG H0 H1 H2 HN
              go_wp2_with fail
              go_roundw
              case rel => exact ⟨j + 1, by omega, by go_num, HG2, W3⟩
              case measure => simp [intOf]; omega
        · obtain rfl : j = n := by omega
          have HF := Lib.hid (show ∀ x, x < k + 1 → ∀ y, y < j → ordA l v x y = true from fun x hx y hy => by
            rcases Nat.lt_or_ge x k with r | r
            · exact F.out x r y hy
            · obtain rfl : x = k := by omega
              exact G.out y hy)
          clear G F
          go_wp2_with fail
          go_roundw
          case rel => exact ⟨k + 1, by omega, by go_num, HF, W⟩
          case measure => simp [intOf]; omega
    · obtain rfl : k = n := by omega
      have HT := Lib.hid (show ordB l v = true from ordB_iff.2 fun x hx y hy => F.out x (by rw [HL.out]; exact hx) y (by rw [HL.out]; exact hy))
      go_wp2_with fail
      go_ret
      exact ⟨ret_bool HT.out.symm, B0.out.trans (W.out.mono B0.out.size)⟩
theorem bnd_bd {l : List It} {wt : Int} (hf : FormOk l wt) : ∀ (c : List Nat) (p : Option Nat) (n : Int), (∀ x ∈ c, x < l.length) → 0 ≤ n → n ≤ 4095 → (bnd l wt p n c).2 = 0 → 0 ≤ (bnd l wt p n c).1 ∧ (bnd l wt p n c).1 ≤ 4095 := by
  intro c
  induction c with
  | nil => intro p n _ h0 h1 _; rw [bnd_nil]; exact ⟨h0, h1⟩
  | cons y c ih =>
    intro p n hm h0 h1 he
    have hy := hm y (List.mem_cons_self ..)
    have hm' : ∀ x ∈ c, x < l.length := fun x hx => hm x (List.mem_cons_of_mem _ hx)
    have key : ∀ n' : Int, 0 ≤ n' → (if (nextZ n' (rnd l y) wt).2 = 0 then bnd l wt (some y) (nextZ n' (rnd l y) wt).1 c else (0, (nextZ n' (rnd l y) wt).2)).2 = 0 → 0 ≤ (if (nextZ n' (rnd l y) wt).2 = 0 then bnd l wt (some y) (nextZ n' (rnd l y) wt).1 c else (0, (nextZ n' (rnd l y) wt).2)).1 ∧ (if (nextZ n' (rnd l y) wt).2 = 0 then bnd l wt (some y) (nextZ n' (rnd l y) wt).1 c else (0, (nextZ n' (rnd l y) wt).2)).1 ≤ 4095 := by
      intro n' h0' he'
      by_cases hz : (nextZ n' (rnd l y) wt).2 = 0
      · rw [if_pos hz] at he' ⊢
        have hb : 0 ≤ (nextZ n' (rnd l y) wt).1 ∧ (nextZ n' (rnd l y) wt).1 ≤ 4095 := by
          unfold nextZ at hz ⊢
          split at hz
          · rename_i g; rw [if_pos g] 
            split at hz
            · rename_i g2; rw [if_pos g2]; unfold okN; simp only; omega
            · cases hz
          · cases hz
        exact ih (some y) _ hm' hb.1 hb.2 he'
      · rw [if_neg hz] at he' ⊢; exact absurd he' hz
    cases p with
    | none => rw [bnd_one] at he ⊢; exact key n h0 he
    | some x => rw [bnd_two] at he ⊢; exact key _ (by split <;> omega) he
theorem bound_bd {l : List It} {wt : Int} (hv : validR l wt = 0) {ch : List Int} (he : (boundE l wt ch).2 = 0) : 0 ≤ (boundE l wt ch).1 ∧ (boundE l wt ch).1 ≤ 4095 := by
  unfold boundE at he ⊢
  rw [if_neg (fun g => g hv)] at he ⊢
  by_cases hc : chB l none ch = true
  · rw [if_pos hc] at he ⊢
    obtain ⟨d, rfl, hd⟩ := chB_iff.1 hc
    rw [map_toZ] at he ⊢
    refine bnd_bd (formOk_of hv) d none 0 (fun x hx => ?_) (Int.le_refl _) (by decide) he
    obtain ⟨k, hk, rfl⟩ := List.mem_iff_getElem.1 hx
    have := (chn_at hd k hk).1
    rwa [List.getD_eq_getElem?_getD, List.getElem?_eq_getElem hk] at this
  · rw [if_neg hc] at he; cases he

set_option maxRecDepth 100000 in
set_option maxHeartbeats 3200000 in
theorem check_any (l : List It) (A : Option Addr) (c L : Nat) (wt st : Int) (v ch : List Int) (V : Option Addr) (n d : Nat) (C : Option Addr) (m e' : Nat) (hL : L = l.length) (hn : n = v.length) (hm : m = ch.length) (hvm : v.length ≤ maxLen) (hcm : ch.length ≤ maxLen) (w : World) (h : IRow w A l) (hr : Row .i64 w w.heap.size V v) (hc : Row .i64 w w.heap.size C ch) :
    Calls Tryz.prog 46 #[jv A L c wt, qv st V n d C m e'] w fun e w' => e = .returned (.int .i64 (chkE l wt st v ch)) ∧ Below w.heap.size w w' := by
  have B1 := (Below.refl w.heap.size w).alloc (Nat.le_refl _) (.cells #[.slice A L c, .int .i64 wt] 37)
  have s1 : (w.alloc (.cells #[.slice A L c, .int .i64 wt] 37)).heap.size = w.heap.size + 1 := by simp
  have b2 := (Below.refl (w.heap.size + 1) (w.alloc (.cells #[.slice A L c, .int .i64 wt] 37))).alloc (Nat.le_of_eq s1.symm) (qcells st V n d C m e')
  have J0 := Lib.hid ((JBox.new (w := w) (A := A) (n := L) (c := c) (wt := wt) w.heap.size rfl).below b2 (Nat.lt_succ_self _))
  have Q0 := QBox.new (w := w.alloc (.cells #[.slice A L c, .int .i64 wt] 37)) (st := st) (A := V) (n := n) (c := d) (B := C) (m := m) (d := e') (w.heap.size + 1) s1.symm
  have HB := B1.trans (b2.mono (Nat.le_succ _))
  have HV := Lib.hid (fun (W : World) (k : Below w.heap.size w W) => val14_any l A c L wt st v V n d hL hn W (h.below k) (hr.below k) hvm)
  have HO := Lib.hid (fun (W : World) (k : Below w.heap.size w W) (hz : val14 l wt st v = 0) => (show Calls Tryz.prog 87 #[jv A L c wt, .slice V n d] W (fun e w' => e = .returned (.bool (ordB l v)) ∧ Below W.heap.size W w') from by
    obtain ⟨a1, a2, a3, a4⟩ := val14_ok hz
    exact inorder_any l A c L wt v V n d hL (by rw [hn, a3, hL]) a1 a3 a4 W (h.below k) (hr.below k)))
  have HBO := Lib.hid (fun (W : World) (k : Below w.heap.size w W) => bound_any l A C c e' L m wt hL ch hm (by rw [hm]; exact hcm) W (h.below k) (hc.below k))
  have HCE := Lib.hid (show chkE l wt st v ch = if val14 l wt st v ≠ 0 then val14 l wt st v else if ordB l v = false then 12 else if (boundE l wt ch).2 ≠ 0 then (boundE l wt ch).2 else if (stepsZ (boundE l wt ch).1).1 = st then 0 else 17 from rfl)
  have HQ := Lib.hid Q0
  have HB := Lib.hid HB
  obtain ⟨b, hb⟩ : ∃ b, b = w.heap.size := ⟨_, rfl⟩
  clear h hr hc hL hn hm hvm hcm B1 s1 b2 Q0
  go_enter Tryz.func46, Tryz.ntmps46
  go_upto_region 1 with fail
  rw [← hb] at J0 HQ ⊢
  generalize (w.alloc (.cells #[.slice A L c, .int .i64 wt] 37)).alloc (qcells st V n d C m e') = w1 at *
  clear hb
  obtain ⟨j0, j1, jl⟩ := J0.out
  obtain ⟨q0, q1, q2, -, ql⟩ := HQ.out
  go_wp2_with fail
  refine (HV.out w1 HB.out).mono ?_
  rintro e w2 ⟨rfl, B2⟩
  have J2 := Lib.hid (J0.out.below B2 jl)
  have Q2 := Lib.hid (HQ.out.below B2 ql)
  have HB2 := Lib.hid (HB.out.trans (B2.mono HB.out.size))
  clear j0 j1 jl q0 q1 q2 ql J0 HQ HB B2 HV
  obtain ⟨j0, j1, jl⟩ := J2.out
  obtain ⟨q0, q1, q2, -, ql⟩ := Q2.out
  by_cases hz : val14 l wt st v = 0
  · have HOO := Lib.hid (HO.out w2 HB2.out hz)
    have HZ := Lib.hid hz
    rw [hz]
    clear hz
    go_wp2_with fail
    refine HOO.out.mono ?_
    rintro e w3 ⟨rfl, B3⟩
    have J3 := Lib.hid (J2.out.below B3 jl)
    have Q3 := Lib.hid (Q2.out.below B3 ql)
    have HB3 := Lib.hid (HB2.out.trans (B3.mono HB2.out.size))
    clear j0 j1 jl q0 q1 q2 ql J2 Q2 HB2 B3 HO HOO
    obtain ⟨j0, j1, jl⟩ := J3.out
    obtain ⟨q0, q1, q2, -, ql⟩ := Q3.out
    cases ho : ordB l v with
    | false =>
      have HE := Lib.hid (show chkE l wt st v ch = 12 by rw [HCE.out, if_neg (fun g => g HZ.out), if_pos ho])
      clear ho
      go_wp2_with fail
      go_ret
      exact ⟨ret_int HE.out.symm, HB3.out⟩
    | true =>
      have HE := Lib.hid (show chkE l wt st v ch = if (boundE l wt ch).2 ≠ 0 then (boundE l wt ch).2 else if (stepsZ (boundE l wt ch).1).1 = st then 0 else 17 by rw [HCE.out, if_neg (fun g => g HZ.out), if_neg (by rw [ho]; exact Bool.noConfusion)])
      have HX := Lib.hid (HBO.out w3 HB3.out)
      clear ho HCE
      obtain ⟨⟨ba, be⟩, hbd⟩ : ∃ t, t = boundE l wt ch := ⟨_, rfl⟩
      rw [← hbd] at HE HX
      clear hbd
      go_wp2_with fail
      refine HX.out.mono ?_
      rintro e w4 ⟨rfl, B4⟩
      have J4 := Lib.hid (J3.out.below B4 jl)
      have Q4 := Lib.hid (Q3.out.below B4 ql)
      have HB4 := Lib.hid (HB3.out.trans (B4.mono HB3.out.size))
      clear j0 j1 jl q0 q1 q2 ql J3 Q3 HB3 B4 HX HBO
      obtain ⟨q0, q1, q2, -, ql⟩ := Q4.out
      by_cases hbe : be = 0
      · subst hbe
        have HE2 := Lib.hid (show chkE l wt st v ch = if (stepsZ ba).1 = st then 0 else 17 by rw [HE.out, if_neg (fun g => g rfl)])
        clear HE
        obtain ⟨⟨sa, se⟩, hsd⟩ : ∃ t, t = stepsZ ba := ⟨_, rfl⟩
        rw [← hsd] at HE2
        have HSD := Lib.hid hsd
        clear hsd
        go_wp2_with fail
        refine (steps_any _ _).mono ?_
        rintro e w5 ⟨rfl, rfl⟩
        rw [← HSD.out]
        by_cases hs : sa = st
        · subst hs
          have HE3 := Lib.hid (show chkE l wt sa v ch = 0 by rw [HE2.out]; exact if_pos rfl)
          have hss : (sa != sa) = false := by simp
          go_wp2_with fail
          go_ret
          exact ⟨ret_int HE3.out.symm, HB4.out⟩
        · have HE3 := Lib.hid (show chkE l wt st v ch = 17 by rw [HE2.out]; exact if_neg hs)
          have hss : (sa != st) = true := bne_iff_ne.2 hs
          go_wp2_with fail
          go_ret
          exact ⟨ret_int HE3.out.symm, HB4.out⟩
      · have HE2 := Lib.hid (show chkE l wt st v ch = be by rw [HE.out, if_pos hbe])
        have hne : (be != 0) = true := bne_iff_ne.2 hbe
        clear hbe HE
        go_wp2_with fail
        go_ret
        exact ⟨ret_int HE2.out.symm, HB4.out⟩
  · have HE := Lib.hid (show chkE l wt st v ch = val14 l wt st v by rw [HCE.out, if_pos hz])
    have hne : (val14 l wt st v != 0) = true := bne_iff_ne.2 hz
    generalize val14 l wt st v = er at *
    clear hz HO HCE
    go_wp2_with fail
    go_ret
    exact ⟨ret_int HE.out.symm, HB2.out⟩
/-- What Make answers: steps, codes, chain, error. -/
def MakeR (l : List It) (wt st : Int) (v ch : List Int) (er : Int) : Prop := LeastR l wt st v er ∧ WitR l wt ch er
theorem MakeR.uniq {l : List It} {wt st st' er er' : Int} {v v' ch ch' : List Int} (h : MakeR l wt st v ch er) (k : MakeR l wt st' v' ch' er') : st = st' ∧ v = v' ∧ ch = ch' ∧ er = er' := by
  obtain ⟨h1, h2, h3⟩ := h.1.uniq k.1
  obtain ⟨h4, _⟩ := h.2.uniq k.2
  exact ⟨h1, h2, h4, h3⟩
theorem LeastR.wit {l : List It} {wt st er er' : Int} {v ch : List Int} (h : LeastR l wt st v er) (k : WitR l wt ch er') : er = er' ∧ (er ≠ 0 → st = 0 ∧ v = [] ∧ ch = []) := by
  rcases h with ⟨h0, rfl, rfl, rfl⟩ | ⟨h0, rfl, rfl, rfl, h1⟩ | ⟨h0, rfl, ⟨bs, h1⟩, h2⟩
  · rcases k with ⟨k0, rfl, rfl⟩ | ⟨k0, rfl, rfl, k1⟩ | ⟨k0, rfl, bs', vs', k1, k2⟩
    · exact ⟨rfl, fun _ => ⟨rfl, rfl, rfl⟩⟩
    · exact absurd k0 h0
    · exact absurd k0 h0
  · rcases k with ⟨k0, rfl, rfl⟩ | ⟨k0, rfl, rfl, k1⟩ | ⟨k0, rfl, bs', vs', k1, k2⟩
    · exact absurd h0 k0
    · exact ⟨rfl, fun _ => ⟨rfl, rfl, rfl⟩⟩
    · exact absurd k1 (h1 _ _)
  · rcases k with ⟨k0, rfl, rfl⟩ | ⟨k0, rfl, rfl, k1⟩ | ⟨k0, rfl, bs', vs', k1, k2⟩
    · exact absurd h0 k0
    · exact absurd h1 (k1 _ _)
    · exact ⟨rfl, fun g => absurd rfl g⟩
def MakePost (l : List It) (wt : Int) (w : World) (e : Ending) (w' : World) : Prop :=
  ∃ st A n c B m d er v ch, e = .returned (.tuple #[qv st A n c B m d, .int .i64 er]) ∧ Own .i64 3 w' w.heap.size (.slice A n c) v ∧ Own .i64 3 w' w.heap.size (.slice B m d) ch ∧ Below w.heap.size w w' ∧ MakeR l wt st v ch er
end Go.Proofs.YtimkmieohkefiaaGreat

namespace Go.Proofs.YtimkmieohkefiaaGreat
open Go.RowKit Go.Lib

set_option maxRecDepth 100000 in
theorem next4 : nextZ 0 0 12 = (0, 0) ∧ nextZ 1 0 12 = (1, 0) ∧ nextZ 2 0 12 = (2, 0) ∧ nextZ 1 0 0 = (0, 15) ∧ nextZ 0 3 0 = (7, 0) := by decide +kernel
end Go.Proofs.YtimkmieohkefiaaGreat

namespace Go.Proofs.YtimkmieohkefiaaGreat
open Go.RowKit

/-- Codes of the forms that satisfy all relations. -/
structure Plan (l : List It) (wt : Int) (u : List Int) : Prop where
  code : ∀ y, y < l.length → ∃ K : Nat, u.getD y 0 = K ∧ isC (rnd l y).toNat wt.toNat K = true
  sort : ∀ x y, x < l.length → y < l.length → via l u x y ≤ u.getD y 0
theorem via_le {l : List It} {v u : List Int} {x y : Nat} (h : rel l x y ≠ 0 → v.getD x 0 ≤ u.getD x 0) : via l v x y ≤ via l u x y := by
  by_cases e : rel l x y = 0
  · rw [via_zero e, via_zero e]; exact Int.le_refl _
  · rw [via_pos e, via_pos e]; have := h e; omega
/-- Where a code lies at or above a number, next finds one up to it. -/
theorem next_code_le {n r wt : Int} {K : Nat} (hn : 0 ≤ n) (hr : 0 ≤ r ∧ r ≤ 12) (hw : 0 ≤ wt ∧ wt ≤ 12) (hk : n ≤ K) (hc : isC r.toNat wt.toNat K = true) : ∃ j, nextZ n r wt = (j, 0) ∧ j ≤ K := by
  rcases nextI hn hr hw with ⟨J, e', g1, g2, g3, g4⟩ | ⟨e', g⟩
  · refine ⟨J, e', ?_⟩
    rcases Nat.lt_or_ge K J with c | c
    · have := g4 K hk c
      rw [hc] at this; cases this
    · omega
  · have := g K hk
    rw [hc] at this; cases this
theorem PSol.least {l : List It} {wt : Int} {S : Nat → Prop} {bs v u : List Int} (hf : FormOk l wt) (h : PSol l wt S bs v) (hu : Plan l wt u) : ∀ y, S y → bs.getD y 0 ≤ u.getD y 0 ∧ v.getD y 0 ≤ u.getD y 0 := by
  have key : ∀ (n : Nat) (y : Nat), S y → blk l y < n → bs.getD y 0 ≤ u.getD y 0 ∧ v.getD y 0 ≤ u.getD y 0 := by
    intro n
    induction n with
    | zero => intro y hy hn; have := (hf.blk y (h.sub y hy)).1; omega
    | succ n ih =>
      intro y hy hn
      have hyl := h.sub y hy
      obtain ⟨K, hK, hc⟩ := hu.code y hyl
      have h1 : bs.getD y 0 ≤ u.getD y 0 := by
        rcases (h.base y hy).hit with e | ⟨x, hx, e⟩
        · omega
        · have e' : via l v x y = bs.getD y 0 := e
          have h2 := hu.sort x y hx hyl
          have h3 := via_le (l := l) (v := v) (u := u) (x := x) (y := y) (fun g => (ih x (h.down x y hy hx g) (by have := (rel_pos g).2; omega)).2)
          omega
      refine ⟨h1, ?_⟩
      obtain ⟨j, hj, hjk⟩ := next_code_le (h.base y hy).pos (hf.rb y hyl) hf.wb (by rw [← hK]; exact h1) hc
      rw [h.code y hy] at hj
      injection hj with hj
      omega
  intro y hy
  exact key 32 y hy (by have := (hf.blk y (h.sub y hy)).2; omega)
/-- The least codes are a plan. -/
theorem Sol.plan {l : List It} {wt : Int} {bs v : List Int} (hf : FormOk l wt) (h : Sol l wt bs v) : Plan l wt v := by
  refine ⟨fun y hy => ?_, fun x y hx hy => ?_⟩
  · have hc := h.code y hy
    rcases nextI (h.base y hy).pos (hf.rb y hy) hf.wb with ⟨J, e', g1, g2, g3, g4⟩ | ⟨e', g⟩
    · rw [e'] at hc
      injection hc with hc
      exact ⟨J, hc.symm, g3⟩
    · rw [e'] at hc
      injection hc with _ hc
      omega
  · have h1 : via l v x y ≤ bs.getD y 0 := (h.base y hy).le x hx
    have h2 := (h.bound hf y).2.2
    omega
/-- More weight. -/
theorem Plan.more {l : List It} {wt wt' : Int} {u : List Int} (h : Plan l wt u) (hw : wt.toNat ≤ wt'.toNat) : Plan l wt' u :=
  ⟨fun y hy => by
    obtain ⟨K, hK, hc⟩ := h.code y hy
    obtain ⟨c1, c2, c3⟩ := isC_iff.1 hc
    exact ⟨K, hK, isC_iff.2 ⟨c1, c2, by omega⟩⟩, h.sort⟩
/-- The greatest of lists of which one lies below the other. -/
theorem TopV.mono {v u : List Int} {k : Nat} {M N : Int} (h : TopV v k M) (g : TopV u k N) (hle : ∀ y, y < k → v.getD y 0 ≤ u.getD y 0) : M ≤ N := by
  obtain ⟨x, hx, e⟩ := h.hit
  have := hle x hx
  have := g.le x hx
  omega
theorem lnF_mono (f : Nat) : ∀ a b, a ≤ b → lnF f a ≤ lnF f b := by
  induction f with
  | zero => intro a b _; exact Nat.le_refl _
  | succ f ih =>
    intro a b h
    have := ih (a / 2) (b / 2) (Nat.div_le_div_right h)
    unfold lnF
    split
    · omega
    · split
      · omega
      · omega
theorem ln_mono {a b : Nat} (h : a ≤ b) : ln a ≤ ln b := lnF_mono 12 a b h
end Go.Proofs.YtimkmieohkefiaaGreat

namespace Go.Proofs.YtimkmieohkefiaaGreat
open Go.RowKit Go.Lib

/-- The steps of lesser codes. -/
theorem StepsOf.mono {v u : List Int} {a b : Int} (h : StepsOf v a) (k : StepsOf u b) (hl : v.length = u.length) (hle : ∀ y, v.getD y 0 ≤ u.getD y 0) : a ≤ b := by
  rcases h with ⟨e, rfl⟩ | ⟨M, hM, rfl⟩
  · rcases k with ⟨_, rfl⟩ | ⟨N, hN, rfl⟩
    · exact Int.le_refl _
    · omega
  · rcases k with ⟨e, rfl⟩ | ⟨N, hN, rfl⟩
    · obtain ⟨x, hx, _⟩ := hM.hit
      rw [hl, e] at hx; cases hx
    · rw [← hl] at hN
      have h1 := hM.mono hN (fun y _ => hle y)
      have := ln_mono (a := M.toNat) (b := N.toNat) (by omega)
      omega
/-- A made job in a block of its own, and its maker. -/
structure JM (w wr : World) (b : Nat) (A : Option Addr) (c : Nat) (l : List It) (wt : Int) (N : Nat) : Prop where
  box : JBox wr b A l.length c wt
  fz : ∀ j, wr.frozen? ⟨b, j, none⟩ = false
  own : IOwn 52 wr (w.heap.size + 1) (.slice A l.length c) l
  lo : ∀ g, (Value.slice A l.length c).ownBlock = some g → g < b
  bel : Below w.heap.size w wr
  val : validR l wt = 0
  run : runM 0 l
  wt_ : 0 ≤ wt ∧ wt ≤ 12
  mkr : IsMk wr w.heap.size N
  lt : w.heap.size < b
theorem JM.irow {w wr : World} {b c N : Nat} {A : Option Addr} {l : List It} {wt : Int} (h : JM w wr b A c l wt N) : IRow wr A l := h.own.irow
theorem IOwn.under {T : TypeId} {W W' : World} {base B : Nat} {v : Value} {l : List It} (h : IOwn T W base v l) (k : Below B W W') (hg : ∀ g, v.ownBlock = some g → g < B) : IOwn T W' base v l := by
  refine ⟨h.1, ?_⟩
  rcases h.2 with q | ⟨g, cap, cur, e1, e2, e3, e4⟩
  · exact Or.inl q
  · exact Or.inr ⟨g, cap, cur, e1, e2, (k.block g (hg g (by rw [e1]; rfl))).trans e3, e4⟩
theorem JM.under {w wr w' : World} {b c N B : Nat} {A : Option Addr} {l : List It} {wt : Int} (h : JM w wr b A c l wt N) (k : Below B wr w') (hB : b < B) : JM w w' b A c l wt N :=
  ⟨h.box.below k hB, fun j => (k.frozen (p := ⟨b, j, none⟩) hB).trans (h.fz j), h.own.under k (fun g hg => Nat.lt_trans (h.lo g hg) hB), h.lo, h.bel.trans (k.mono (by have := h.lt; omega)), h.val, h.run, h.wt_, h.mkr.stays (k.mono (by have := h.lt; omega)), h.lt⟩
theorem JM.below {w wr w' : World} {b c N : Nat} {A : Option Addr} {l : List It} {wt : Int} (h : JM w wr b A c l wt N) (k : Below wr.heap.size wr w') : JM w w' b A c l wt N := h.under k h.box.lt
theorem JM.drewN {w wr : World} {b c N : Nat} {A : Option Addr} {l : List It} {wt : Int} (h : JM w wr b A c l wt N) (n : Nat) : JM w (wr.drewN n) b A c l wt N := h.below ⟨rfl, rfl, rfl, Nat.le_refl _, fun _ _ => rfl⟩
/-- The maker has gone on. -/
theorem JM.step {w wr w' : World} {b c N M : Nat} {A : Option Addr} {l : List It} {wt : Int} (h : JM w wr b A c l wt N) (k : Moves w.heap.size wr w') (g : IsMk w' w.heap.size M) : JM w w' b A c l wt M :=
  ⟨h.box.moves k (by have := h.lt; omega), fun j => (k.frozen (p := ⟨b, j, none⟩) h.box.lt (by have := h.lt; show b ≠ _; omega)).trans (h.fz j), h.own.moves k (Nat.lt_succ_self _), h.lo, k.below h.bel (Nat.le_refl _) h.bel.size, h.val, h.run, h.wt_, g, h.lt⟩
theorem JM.form {w a : World} {b c N : Nat} {A : Option Addr} {l : List It} {wt : Int} (h : JM w a b A c l wt N) : FormOk l wt := formOk_of h.val
/-- What Least answers of a valid job. -/
theorem LeastR.valid {l : List It} {wt st er : Int} {v : List Int} (hv : validR l wt = 0) (h : LeastR l wt st v er) : (er = 15 ∧ v = [] ∧ st = 0 ∧ ∀ bs' v', ¬ Sol l wt bs' v') ∨ (er = 0 ∧ ∃ bs, Sol l wt bs v ∧ StepsOf v st) := by
  rcases h with ⟨h1, _⟩ | ⟨_, h2, h3, h4, h5⟩ | ⟨_, h2, ⟨bs, h3⟩, h4⟩
  · exact absurd hv h1
  · exact Or.inl ⟨h2, h3, h4, h5⟩
  · exact Or.inr ⟨h2, bs, h3, h4⟩
theorem WitR.valid {l : List It} {wt er : Int} {zs : List Int} (hv : validR l wt = 0) (h : WitR l wt zs er) : (er = 15 ∧ zs = [] ∧ ∀ bs' v', ¬ Sol l wt bs' v') ∨ (er = 0 ∧ ∃ bs v, Sol l wt bs v ∧ ((l.length = 0 ∧ zs = []) ∨ ∃ y c, IsTop v y ∧ IsBackB l v bs y c ∧ zs = toZ c)) := by
  rcases h with ⟨h1, _⟩ | ⟨_, h2, h3, h4⟩ | ⟨_, h2, h3⟩
  · exact absurd hv h1
  · exact Or.inl ⟨h2, h3, h4⟩
  · exact Or.inr ⟨h2, h3⟩
/-- The plan in a block of its own, with its codes. -/
structure PSt (wr : World) (m g : Nat) (st : Int) (A : Option Addr) (n c : Nat) (v : List Int) : Prop where
  box : PBox wr g st A n c
  own : Own .i64 3 wr (m + 1) (.slice A n c) v
  lo : ∀ q, (Value.slice A n c).ownBlock = some q → q < g
  len : n = v.length
  lt : m < g
theorem PSt.row {w : World} {m g n c : Nat} {st : Int} {A : Option Addr} {v : List Int} (h : PSt w m g st A n c v) : Row .i64 w w.heap.size A v ∧ v.length ≤ maxLen := by
  obtain ⟨A', c', ev, LR, -, hm, -⟩ := h.own.slice
  have e1 : A = A' := by injection ev
  subst e1
  exact ⟨LR, hm⟩
theorem PSt.under {w w' : World} {m g n c B : Nat} {st : Int} {A : Option Addr} {v : List Int} (h : PSt w m g st A n c v) (k : Below B w w') (hB : g < B) : PSt w' m g st A n c v :=
  ⟨h.box.below k hB, h.own.underB k (fun q hq => Nat.lt_trans (h.lo q hq) hB), h.lo, h.len, h.lt⟩
theorem PSt.below {w w' : World} {m g n c : Nat} {st : Int} {A : Option Addr} {v : List Int} (h : PSt w m g st A n c v) (k : Below w.heap.size w w') : PSt w' m g st A n c v := h.under k h.box.lt
theorem PBox.moves {m : Nat} {w w' : World} {b n c : Nat} {st : Int} {A : Option Addr} (h : PBox w b st A n c) (k : Moves m w w') (hb : b ≠ m) : PBox w' b st A n c :=
  ⟨(k.cell (p := ⟨b, 0, none⟩) h.lt hb).trans h.c0, (k.cell (p := ⟨b, 1, none⟩) h.lt hb).trans h.c1, fun j => (k.frozen (p := ⟨b, j, none⟩) h.lt hb).trans (h.f j), Nat.lt_of_lt_of_le h.lt k.size⟩
theorem PSt.step {w w' : World} {m g n c : Nat} {st : Int} {A : Option Addr} {v : List Int} (h : PSt w m g st A n c v) (k : Moves m w w') : PSt w' m g st A n c v :=
  ⟨h.box.moves k (by have := h.lt; omega), h.own.moves k (Nat.lt_succ_self _), h.lo, h.len, h.lt⟩
theorem PSt.new {w2 : World} {base m n c : Nat} {st : Int} {A : Option Addr} {v : List Int} (O : Own .i64 3 w2 base (.slice A n c) v) (hb : m + 1 ≤ base) (g : Nat) (hg : g = w2.heap.size) (hm : m < g) : PSt (w2.alloc (.cells #[.int .i64 st, .slice A n c] 39)) m g st A n c v := by
  obtain ⟨A', c', ev, LR, -, -, -⟩ := O.slice
  have e2 : n = v.length := by injection ev
  exact ⟨PBox.new g hg, (O.base hb).below ((Below.refl _ _).alloc (Nat.le_refl _) _), fun q hq => by rw [hg]; exact (own_block O hq).2, e2, hm⟩
end Go.Proofs.YtimkmieohkefiaaGreat
