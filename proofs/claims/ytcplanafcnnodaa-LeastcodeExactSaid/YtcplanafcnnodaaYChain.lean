/-
  Stage 13: the program's chainTo, Least and Witness.
-/
import Derived.Test.YtcplanafcnnodaaYSolve
import Derived.Test.YtcplanafcnnodaaJTop
set_option linter.unusedSimpArgs false
set_option linter.unusedVariables false
namespace Go.Proofs.Ytcplanafcnnodaa
open Go.RowKit Go.Lib

def tlN (i : Nat) : Bool := false
/-- What a chain leaves: a list of the call's own. -/
def ChPostB (l : List It) (v bs : List Int) (y : Nat) (w : World) (e : Ending) (w' : World) : Prop :=
  ∃ u c, e = .returned u ∧ IsBackB l v bs y c ∧ Own .i64 3 w' w.heap.size u (toZ c) ∧ Below w.heap.size w w'
/-- Block b holds the solution. -/
structure SBox (w : World) (b : Nat) (d : SD) : Prop where
  c0 : w.cell? ⟨b, 0, none⟩ = some (.slice d.1.1 d.1.2.1 d.1.2.2)
  c1 : w.cell? ⟨b, 1, none⟩ = some (.slice d.2.1 d.2.2.1 d.2.2.2)
  lt : b < w.heap.size
theorem SBox.below {w w' : World} {b B : Nat} {d : SD} (h : SBox w b d) (k : Below B w w') (hb : b < B) : SBox w' b d :=
  ⟨(k.cell (p := ⟨b, 0, none⟩) hb).trans h.c0, (k.cell (p := ⟨b, 1, none⟩) hb).trans h.c1, Nat.lt_of_lt_of_le h.lt k.size⟩
theorem SBox.new {w : World} {d : SD} (b : Nat) (hb : b = w.heap.size) : SBox (w.alloc (.cells #[.slice d.1.1 d.1.2.1 d.1.2.2, .slice d.2.1 d.2.2.1 d.2.2.2] 55)) b d := by
  subst hb; exact ⟨by rw [cell_new]; rfl, by rw [cell_new]; rfl, by simp⟩
set_option maxRecDepth 100000 in
set_option maxHeartbeats 3200000 in
theorem ychain_any (l : List It) (A BA CA : Option Addr) (c bc cc L : Nat) (wt : Int) (bs v : List Int) (hL : L = l.length) (hval : validR l wt = 0) (hs : Sol l wt bs v) :
    ∀ (n y : Nat), y < L → blk l y < n → ∀ w : World, IRow w A l → Row .i64 w w.heap.size BA bs → Row .i64 w w.heap.size CA v →
    Calls Try.prog 42 #[jv A L c wt, sv ((BA, L, bc), (CA, L, cc)), .int .i64 (y : Int)] w (ChPostB l v bs y w) := by
  have hf := formOk_of hval
  have hL2 := (valid_ok hval).1
  intro n
  induction n with
  | zero => intro y hy hb w; have := (hf.blk y (by rw [← hL]; exact hy)).1; omega
  | succ n ih =>
    intro y hy hb w hi hbr hvr
    have HF := Lib.hid hf
    have HS := Lib.hid hs
    have HI := Lib.hid hi
    have HB := Lib.hid hbr
    have HV := Lib.hid hvr
    have HL := Lib.hid hL
    have HIH := Lib.hid ih
    have HBN := Lib.hid hb
    have HLB := Lib.hid (fun (k : Nat) (hk : k < L) (vk0 : Int) (h1 : 0 ≤ vk0 ∧ vk0 ≤ 1000000) (W : World) (h2 : IRow W A l) => lb_any l A c L wt hL hval k y vk0 h1 hk hy W h2)
    have hL96 : L ≤ 96 := by omega
    have hbl : bs.length = L := by rw [hs.blen, hL]
    have hvl : v.length = L := by rw [hs.vlen, hL]
    have HBL := Lib.hid hbl
    have HVL := Lib.hid hvl
    have s1 : (w.alloc (.cells #[.slice A L c, .int .i64 wt] 24)).heap.size = w.heap.size + 1 := by simp
    have J0 := JBox.new (w := w) (A := A) (n := L) (c := c) (wt := wt) w.heap.size rfl
    have B0 := (Below.refl w.heap.size w).alloc (Nat.le_refl _) (.cells #[.slice A L c, .int .i64 wt] 24)
    have X0 := SBox.new (w := w.alloc (.cells #[.slice A L c, .int .i64 wt] 24)) (d := ((BA, L, bc), (CA, L, cc))) _ rfl
    have b1 := (Below.refl _ (w.alloc (.cells #[.slice A L c, .int .i64 wt] 24))).alloc (Nat.le_refl _) (.cells #[.slice BA L bc, .slice CA L cc] 55)
    have HJ := Lib.hid (J0.below b1 J0.lt)
    have HBW := Lib.hid (B0.trans (b1.mono B0.size))
    rw [s1] at X0
    have HX := Lib.hid X0
    obtain ⟨b, hbq⟩ : ∃ b, b = w.heap.size := ⟨_, rfl⟩
    clear hf hL2 hs hi hbr hvr hL ih hb s1 J0 B0 X0 b1 hval hbl hvl
    go_enter Try.func42, Try.ntmps42
    go_upto_region 1 with fail
    rw [← hbq] at HJ HX ⊢
    generalize (w.alloc (.cells #[.slice A L c, .int .i64 wt] 24)).alloc (.cells #[.slice BA L bc, .slice CA L cc] 55) = w1 at *
    obtain ⟨x0, x1, xl⟩ := HX.out
    replace x0 : w1.cell? ⟨b + 1, 0, none⟩ = some (.slice BA L bc) := x0
    replace x1 : w1.cell? ⟨b + 1, 1, none⟩ = some (.slice CA L cc) := x1
    have HB1 := Lib.hid (HB.out.below HBW.out)
    obtain ⟨ab, rfl, _, cy⟩ := HB1.out y (by rw [HBL.out]; exact hy)
    have hyi : (y : Int) < (L : Int) := by omega
    have hz0 := ((HS.out.bound HF.out) y).2
    obtain ⟨z, hz⟩ : ∃ z, z = bs.getD y 0 := ⟨_, rfl⟩
    have HZ := Lib.hid hz
    rw [← hz] at cy hz0
    clear hz hbq
    by_cases hzp : 0 < z
    · go_wp2_with fail
      clear cy x0 x1 xl
      go_loopw [18] (fun iv wr => ∃ k : Nat, k ≤ L ∧ iv = .int .i64 (k : Int) ∧ Hid (∀ x, x < k → via l v x y ≠ z) ∧ Hid (Below w1.heap.size w1 wr)) (fun iv _ => L - (intOf iv).toNat)
      case atStart => exact ⟨0, by omega, rfl, Lib.hid (fun x hx => absurd hx (Nat.not_lt_zero _)), Lib.hid (Below.refl _ _)⟩
      case round =>
        obtain ⟨k, hk, rfl, F, BR⟩ := hrel
        by_cases hlt : k < L
        · have BWR := Lib.hid (HBW.out.trans (BR.out.mono HBW.out.size))
          obtain ⟨ac, rfl, _, ck⟩ := (HV.out.below BWR.out) k (by rw [HVL.out]; exact hlt)
          have hki : (k : Int) < (L : Int) := by omega
          have hvk := ((HS.out.bound HF.out) k).1
          obtain ⟨vk0, hvk0⟩ : ∃ m, m = v.getD k 0 := ⟨_, rfl⟩
          have HLB1 := Lib.hid (fun (W : World) (kb : Below wr.heap.size wr W) => HLB.out k hlt vk0 (by rw [hvk0]; omega) W (HI.out.below (BWR.out.trans (kb.mono BWR.out.size))))
          have HVV := Lib.hid (show via l v k y = vk (rel l k y) vk0 by rw [hvk0]; rfl)
          rw [← hvk0] at ck
          obtain ⟨lb, hlb⟩ : ∃ m, m = vk (rel l k y) vk0 := ⟨_, rfl⟩
          rw [← hlb] at HLB1 HVV
          clear hvk hvk0 hlb
          obtain ⟨j0, j1, jl⟩ := (HJ.out.below BR.out HJ.out.lt)
          obtain ⟨x0, x1, xl⟩ := (HX.out.below BR.out HX.out.lt)
          replace x0 : wr.cell? ⟨b + 1, 0, none⟩ = some (.slice (some ab) L bc) := x0
          replace x1 : wr.cell? ⟨b + 1, 1, none⟩ = some (.slice (some ac) L cc) := x1
          obtain ⟨ab', e', _, cy⟩ := (HB1.out.below BR.out) y (by rw [HBL.out]; exact hy)
          obtain rfl : ab = ab' := by injection e'
          rw [← HZ.out] at cy
          have lty := lt_of_cell cy
          have HPS := Lib.hid (fun (X : World) (hX : Below wr.heap.size wr X) => (show X.cell? ⟨b, 0, none⟩ = some (.slice A L c) ∧ X.cell? ⟨b, 1, none⟩ = some (.int .i64 wt) ∧ X.cell? ⟨b + 1, 0, none⟩ = some (.slice (some ab) L bc) ∧ X.cell? (ab.add y) = some (.int .i64 z) from
            ⟨(hX.cell (p := ⟨b, 0, none⟩) jl).trans j0, (hX.cell (p := ⟨b, 1, none⟩) jl).trans j1, (hX.cell (p := ⟨b + 1, 0, none⟩) xl).trans x0, (hX.cell lty).trans cy⟩))
          clear j0 j1 x0 cy lty e'
          go_upto_region 5 with fail
          clear x1 ck
          obtain ⟨q0, e0⟩ : ∃ x, x = wr.drew := ⟨_, rfl⟩
          have K0 := Lib.hid (show Below wr.heap.size wr q0 from by rw [e0]; exact (Below.refl _ _).drew)
          have F0 := HPS.out q0 K0.out
          have HE0 := Lib.hid e0
          clear e0
          refine AnyT.begin_at tlN (fun X => X.cell? ⟨b, 0, none⟩ = some (.slice A L c) ∧ X.cell? ⟨b, 1, none⟩ = some (.int .i64 wt) ∧ X.cell? ⟨b + 1, 0, none⟩ = some (.slice (some ab) L bc) ∧ X.cell? (ab.add y) = some (.int .i64 z)) (by kernel_rfl) HE0.out F0 ?_
          clear F0
          intro F0
-- TAKES R5
          refine AnyT.takeD (i := 0) (d := some 23) (v := jv A L c wt) rfl rfl (by kernel_rfl) (by kernel_rfl) (by kernel_rfl) (by kernel_rfl) (fun _ _ _ h => h) (Or.inl ⟨by rfl, fun wz hz => by obtain ⟨z0, z1, z2, z3⟩ := hz; go_simp⟩) F0 ?_
          simp only [Act.put, List.setIfInBounds_toArray, List.set_cons_zero, List.set_cons_succ]
          refine AnyT.takeD (i := 1) (d := some 24) (v := .int .i64 (k : Int)) rfl rfl (by kernel_rfl) (by kernel_rfl) (by kernel_rfl) (by kernel_rfl) (fun _ _ _ h => h) (Or.inl ⟨by rfl, fun wz _ => by go_simp⟩) F0 ?_
          simp only [Act.put, List.setIfInBounds_toArray, List.set_cons_zero, List.set_cons_succ]
          refine AnyT.takeD (i := 2) (d := some 25) (v := .int .i64 vk0) rfl rfl (by kernel_rfl) (by kernel_rfl) (by kernel_rfl) (by kernel_rfl) (fun _ _ _ h => h) (Or.inl ⟨by rfl, fun wz _ => by go_simp⟩) F0 ?_
          simp only [Act.put, List.setIfInBounds_toArray, List.set_cons_zero, List.set_cons_succ]
          refine AnyT.takeD (i := 3) (d := some 26) (v := .int .i64 (y : Int)) rfl rfl (by kernel_rfl) (by kernel_rfl) (by kernel_rfl) (by kernel_rfl) (fun _ _ _ h => h) (Or.inl ⟨by rfl, fun wz _ => by go_simp⟩) F0 ?_
          simp only [Act.put, List.setIfInBounds_toArray, List.set_cons_zero, List.set_cons_succ]
          refine AnyT.takeD (i := 5) (d := some 28) (v := .pointer (some ⟨b + 1, 0, none⟩)) rfl rfl (by kernel_rfl) (by kernel_rfl) (by kernel_rfl) (by kernel_rfl) (fun _ _ _ h => h) (Or.inl ⟨by rfl, fun wz _ => by go_simp⟩) F0 ?_
          simp only [Act.put, List.setIfInBounds_toArray, List.set_cons_zero, List.set_cons_succ]
          refine AnyT.takeD (i := 6) (d := some 29) (v := .slice (some ab) L bc) rfl rfl (by kernel_rfl) (by kernel_rfl) (by kernel_rfl) (by kernel_rfl) (fun _ _ _ h => h) (Or.inl ⟨by rfl, fun wz hz => by obtain ⟨z0, z1, z2, z3⟩ := hz; go_simp⟩) F0 ?_
          simp only [Act.put, List.setIfInBounds_toArray, List.set_cons_zero, List.set_cons_succ]
          refine AnyT.takeD (i := 7) (d := some 30) (v := .int .i64 (y : Int)) rfl rfl (by kernel_rfl) (by kernel_rfl) (by kernel_rfl) (by kernel_rfl) (fun _ _ _ h => h) (Or.inl ⟨by rfl, fun wz _ => by go_simp⟩) F0 ?_
          simp only [Act.put, List.setIfInBounds_toArray, List.set_cons_zero, List.set_cons_succ]
          refine AnyT.takeD (i := 8) (d := some 31) (v := .pointer (some (ab.add y))) rfl rfl (by kernel_rfl) (by kernel_rfl) (by kernel_rfl) (by kernel_rfl) (fun _ _ _ h => h) (Or.inl ⟨by rfl, fun wz _ => by go_simp⟩) F0 ?_
          simp only [Act.put, List.setIfInBounds_toArray, List.set_cons_zero, List.set_cons_succ]
          refine AnyT.takeD (i := 9) (d := some 32) (v := .int .i64 z) rfl rfl (by kernel_rfl) (by kernel_rfl) (by kernel_rfl) (by kernel_rfl) (fun _ _ _ h => h) (Or.inl ⟨by rfl, fun wz hz => by obtain ⟨z0, z1, z2, z3⟩ := hz; go_simp⟩) F0 ?_
          simp only [Act.put, List.setIfInBounds_toArray, List.set_cons_zero, List.set_cons_succ]
          -- TAKEN R5
          refine AnyT.branch (rs := [4]) (by kernel_rfl) (by simp) ?_
          refine all_cons (?_) all_nil
          refine AnyT.enter (i := 4) (d := some 27) (f := 52) (args := #[jv A L c wt, .int .i64 (k : Int), .int .i64 vk0, .int .i64 (y : Int)]) rfl rfl rfl (by go_simp) (HLB1.out q0 K0.out) ?_
          rintro e q1 ⟨rfl, hB1⟩
          have K1 := Lib.hid (K0.out.trans (hB1.mono K0.out.size))
          have F1 := HPS.out q1 K1.out
          refine ⟨_, rfl, fun _ => F1, ?_⟩
          clear hB1 F0
          simp only [Act.put, List.setIfInBounds_toArray, List.set_cons_zero, List.set_cons_succ]
          refine AnyT.takeD (i := 10) (d := some 33) (v := .bool (lb == z)) rfl rfl (by kernel_rfl) (by kernel_rfl) (by kernel_rfl) (by kernel_rfl) (fun _ _ _ h => h) (Or.inl ⟨by rfl, fun wz _ => by go_simp⟩) F1 ?_
          simp only [Act.put, List.setIfInBounds_toArray, List.set_cons_zero, List.set_cons_succ]
          refine AnyT.done_ (by kernel_rfl) ?_ _
          have BR1 := Lib.hid (BR.out.trans (K1.out.mono BR.out.size))
          clear F1 HPS HE0 K0 K1 HLB1
          by_cases e : lb = z
          · subst e
            have hb : (lb == lb) = true := by simp
            have hbx : blk l k < n := by
              have gr : rel l k y ≠ 0 := fun gr => by have := HVV.out; rw [via_zero gr] at this; omega
              have h1 := (rel_pos gr).2
              have h2 := HBN.out
              omega
            have HST := Lib.hid (fun ch hc => IsBackB.step (l := l) (v := v) (bs := bs) y k ch (by rw [← HZ.out]; exact hzp) (by rw [← HL.out]; exact hlt) (by rw [← HZ.out]; exact HVV.out) (fun x hx => by rw [← HZ.out]; exact F.out x hx) hc)
            have BW := Lib.hid (HBW.out.trans (BR1.out.mono HBW.out.size))
            have HC := Lib.hid (HIH.out k hlt hbx q1 (HI.out.below BW.out) (HB.out.below BW.out) (HV.out.below BW.out))
            obtain ⟨j0, j1, jl⟩ := (HJ.out.below BR1.out HJ.out.lt)
            obtain ⟨x0, x1, xl⟩ := (HX.out.below BR1.out HX.out.lt)
            replace x0 : q1.cell? ⟨b + 1, 0, none⟩ = some (.slice (some ab) L bc) := x0
            replace x1 : q1.cell? ⟨b + 1, 1, none⟩ = some (.slice (some ac) L cc) := x1
            rw [hb]
            clear BR BWR
            go_wp2_with fail
            refine HC.out.mono ?_
            rintro e w3 ⟨u, ch, rfl, hch, O, B3⟩
            have HCH := Lib.hid (HST.out ch hch)
            have hcl := hch.len HF.out.blk (by rw [← HL.out]; exact hlt)
            have h31 := (HF.out.blk k (by rw [← HL.out]; exact hlt)).2
            have HLN := Lib.hid (show (toZ ch).length + 1 ≤ 1000000000 by rw [toZ_len]; omega)
            have O3 := Lib.hid (O.base BW.out.size)
            have B4 := Lib.hid (BW.out.trans (B3.mono BW.out.size))
            clear hcl h31 O B3 HC HST hch BW j0 j1 jl x0 x1 xl
            go_wp2_with (first | (at_builtin; refine wpList_appI _ rfl (.tmp 37) (.tmp 39) rfl w.heap.size _ (toZ ch) rfl (O3.out.alloc _) (y : Int) w3 rfl _ rfl 1 rfl HLN.out (le_allocW (w := w3) B4.out.size) ?_; intro v5 w5 A5))
            go_ret
            exact ⟨v5, ch ++ [y], rfl, HCH.out, by rw [toZ_app]; exact A5.1, A5.below B4.out B4.out.size O3.out⟩
          · have hb : (lb == z) = false := by simpa using e
            have HE := Lib.hid e
            rw [hb]
            clear e
            go_wp2_with fail
            go_roundw
            case rel => exact ⟨k + 1, by omega, by go_num, Lib.hid (fun x hx => by
              rcases Nat.lt_or_ge x k with g | g
              · exact F.out x g
              · have : x = k := by omega
                subst this; rw [HVV.out]; exact HE.out), BR1⟩
            case measure => simp [intOf]; omega
        · exfalso
          have hkL : k = L := by omega
          rcases (HS.out.base y (by rw [← HL.out]; exact hy)).hit with e | ⟨x, hx, e⟩
          · have := HZ.out; omega
          · exact F.out x (by rw [hkL, HL.out]; exact hx) (by rw [HZ.out]; exact e)
    · have hz1 : ¬ (0 : Int) < z := hzp
      have OO := Lib.hid (Own.laid (k := .i64) (T := 3) w1 w.heap.size HBW.out.size (toZ [y]) 1 rfl (by omega))
      have B4 := Lib.hid (HBW.out.alloc HBW.out.size (.cells #[.int .i64 (y : Int)] 3))
      go_wp2_with fail
      go_ret
      exact ⟨_, [y], rfl, .one y (by rw [← HZ.out]; omega), OO.out, B4.out⟩
end Go.Proofs.Ytcplanafcnnodaa
