/-
  Stage 11: the reference's Back, for any list of numbers (tools/gen_jback.py, from stage 13's).
-/
import Derived.Test.YtpimdcljecipeaaJRef3
import Derived.Test.YtpimdcljecipeaaJTop
import Derived.Test.YtpimdcljecipeaaSrc
import Derived.Test.YtpimdcljecipeaaReg
set_option linter.unusedSimpArgs false
set_option linter.unusedVariables false
namespace Go.Proofs.Ytpimdcljecipeaa
open Go.RowKit Go.Lib

def tlZ (i : Nat) : Bool := false
theorem AnyT.enterZ {P : Program} {ops : Array Oper} {Q : Exit → Act → World → Prop} {S : World → Prop} {tl : Nat → Bool} {i : Nat} {o : Oper} {fuel : Nat} {listed : Array Bool} {a : Act} {w : World} {f : FuncId} {args : Array Value} {R : Ending → World → Prop} {d : Option Tmp} (ho : ops[i]? = some o) (hw : Region.wanted o (yielded ops a.tmps) = true) (hd : o.dst = d)
    (hrun : (execOp a.eval o).run P w = .ok (.enter f args) w) (hc : Calls P f args w R)
    (h : ∀ e w', R e w' → ∃ v, e = .returned v ∧ (tl i = false → S w') ∧ AnyT P ops Q S tl fuel (listed.setIfInBounds i true) (a.put d v) w') :
    wpOp P ops Q i (fun a' w' => (tl i = false → S w') ∧ AnyT P ops Q S tl fuel (listed.setIfInBounds i true) a' w') a w :=
  AnyT.step ho (fun KK hK => by
    subst hd
    rw [if_pos hw]
    unfold Oper.wp
    rw [hrun, Oper.upon_enter]
    refine hc.mono fun e w' hR => ?_
    obtain ⟨v, rfl, h1, h2⟩ := h e w' hR
    exact hK.out _ _ h1 h2)
/-- The chain that is found by going back from y, by the bases. -/
inductive IsBackG (l : List It) (v bs : List Int) : Nat → List Nat → Prop
  | one (y : Nat) : bs.getD y 0 ≤ 0 → IsBackG l v bs y [y]
  | step (y x : Nat) (c : List Nat) : 0 < bs.getD y 0 → x < l.length → via l v x y = bs.getD y 0 → (∀ z, z < x → via l v z y ≠ bs.getD y 0) → IsBackG l v bs x c → IsBackG l v bs y (c ++ [y])


/-- What Back leaves. -/
def BkPost (l : List It) (v bs : List Int) (w : World) (e : Ending) (w' : World) : Prop :=
  ∃ u zs, e = .returned u ∧ Own .i64 3 w' w.heap.size u zs ∧ ((l.length = 0 ∧ zs = []) ∨ ∃ y c, IsTop v y ∧ IsBackG l v bs y c ∧ zs = toZ c) ∧ Below w.heap.size w w'
set_option maxRecDepth 100000 in
set_option maxHeartbeats 3200000 in
theorem back_any (l : List It) (A V : Option Addr) (c cv : Nat) (wt : Int) (v : List Int) (w : World) (h : IRow w A l) (hv : Row .i64 w w.heap.size V v) (hvl : v.length = l.length) (hvb : ∀ k, k < l.length → 0 ≤ v.getD k 0 ∧ v.getD k 0 ≤ 1000000) (bs : List Int) (hbs : ∀ y, y < l.length → IsMaxP (fun x => x < l.length) (fun x => via l v x y) (bs.getD y 0)) (hok : BlkOk l) :
    Calls Try.prog 37 #[jv A l.length c wt, .slice V l.length cv] w (BkPost l v bs w) := by
  have H := Lib.hid h
  have HV := Lib.hid hv
  have HBM := Lib.hid hbs
  have HOK := Lib.hid hok
  obtain ⟨L, hL⟩ : ∃ n, n = l.length := ⟨_, rfl⟩
  have HL := Lib.hid hL
  have HVL := Lib.hid hvl
  have HBD := Lib.hid hvb
  have hLm : l.length ≤ 9223372036854775807 := h.len
  have HBS := Lib.hid (fun (y : Nat) (hy : y < l.length) (W : World) (k : Below w.heap.size w W) => base_any l A V c cv wt v y hy W (h.below k) (hv.below k) hvl HBD.out)
  have HKD := Lib.hid (fun (x y : Nat) (hx : x < l.length) (hy : y < l.length) (W : World) (k : Below w.heap.size w W) => kind_any l A c wt x y hx hy W (h.below k))
  have HST := Lib.hid (fun (x y : Nat) (hx : x < l.length) (hy : y < l.length) (W : World) (k : Below w.heap.size w W) => strict_any l A c wt x y hx hy W (h.below k))
  rw [← hL] at HBS HKD HST HVL HBD hLm ⊢
  have B0 := Lib.hid ((Below.refl w.heap.size w).alloc (Nat.le_refl _) (.cells #[.slice A L c, .int .i64 wt] 25))
  have J0 := Lib.hid (JBox.new (w := w) (A := A) (n := L) (c := c) (wt := wt) w.heap.size rfl)
  obtain ⟨b, hb⟩ : ∃ b, b = w.heap.size := ⟨_, rfl⟩
  clear h hL hv hvl hvb hbs hok
  go_enter Try.func37, Try.ntmps37
  go_upto_region 1 with fail
  rw [← hb] at J0 ⊢
  generalize w.alloc (.cells #[.slice A L c, .int .i64 wt] 25) = w1 at *
  have HJ := Lib.hid (show ∀ W, Below w1.heap.size w1 W → JBox W b A L c wt from fun W k => J0.out.below k J0.out.lt)
  clear hb J0
  cases L with
  | zero =>
    go_wp2_with fail
    go_ret
    exact ⟨_, [], rfl, Own.nil, Or.inl ⟨HL.out.symm, rfl⟩, B0.out⟩
  | succ n =>
    have hn0 : ((n : Int) + 1 == 0) = false := by simpa using (by omega : ¬ (n : Int) + 1 = 0)
    go_wp2_with fail
    clear hn0
    go_loopw [5, 6] (fun yv iv wr => ∃ (k y : Nat), k ≤ n + 1 ∧ y < n + 1 ∧ iv = .int .i64 (k : Int) ∧ yv = .int .i64 (y : Int) ∧ Hid ((∀ x, x < k → v.getD x 0 ≤ v.getD y 0) ∧ ∀ x, x < y → v.getD x 0 < v.getD y 0) ∧ Hid (∃ q, wr = w1.drewN q)) (fun _ iv _ => n + 1 - (intOf iv).toNat)
    case atStart => exact ⟨0, 0, by omega, by omega, rfl, rfl, Lib.hid ⟨fun x hx => absurd hx (Nat.not_lt_zero _), fun x hx => absurd hx (Nat.not_lt_zero _)⟩, Lib.hid ⟨0, rfl⟩⟩
    case round =>
      obtain ⟨k, y, hk, hy, rfl, rfl, T, HW⟩ := hrel
      obtain ⟨q, hq⟩ := HW.out
      have HQ := Lib.hid hq
      have B1 := Lib.hid (show Below w.heap.size w wr by rw [hq]; exact bdn B0.out)
      by_cases hlt : k < n + 1
      · obtain ⟨vad, rfl, _, ck⟩ := (HV.out.below B1.out) k (by rw [HVL.out]; exact hlt)
        obtain ⟨_, e', _, cy⟩ := (HV.out.below B1.out) y (by rw [HVL.out]; exact hy)
        obtain rfl : vad = _ := by injection e'
        obtain ⟨zk, hzk⟩ : ∃ z, z = v.getD k 0 := ⟨_, rfl⟩
        obtain ⟨zy, hzy⟩ : ∃ z, z = v.getD y 0 := ⟨_, rfl⟩
        rw [← hzk] at ck
        rw [← hzy] at cy
        have hk1 : (k : Int) < (n : Int) + 1 := by omega
        have hy1 : (y : Int) < (n : Int) + 1 := by omega
        have HZ := Lib.hid (show zk = v.getD k 0 ∧ zy = v.getD y 0 from ⟨hzk, hzy⟩)
        clear e' hzk hzy hq HW
        by_cases hg : zy < zk
        · have HT := Lib.hid (show (∀ x, x < k + 1 → v.getD x 0 ≤ v.getD k 0) ∧ ∀ x, x < k → v.getD x 0 < v.getD k 0 from by
            have h1 := HZ.out.1; have h2 := HZ.out.2
            refine ⟨fun x hx => ?_, fun x hx => ?_⟩
            · rcases Nat.lt_or_ge x k with g | g
              · have := T.out.1 x g; omega
              · have : x = k := by omega
                rw [this]; exact Int.le_refl _
            · have := T.out.1 x hx; omega)
          go_wp2_with fail
          go_quiet (fail)
          go_wp2_with fail
          go_roundw
          case rel => exact ⟨k + 1, k, by omega, by omega, by go_num, rfl, HT, Lib.hid ⟨_, by rw [HQ.out, World.drewN_drewN]⟩⟩
          case measure => simp [intOf]; omega
        · have HT := Lib.hid (show (∀ x, x < k + 1 → v.getD x 0 ≤ v.getD y 0) ∧ ∀ x, x < y → v.getD x 0 < v.getD y 0 from by
            have h1 := HZ.out.1; have h2 := HZ.out.2
            refine ⟨fun x hx => ?_, T.out.2⟩
            rcases Nat.lt_or_ge x k with g | g
            · exact T.out.1 x g
            · have : x = k := by omega
              rw [this]; omega)
          go_wp2_with fail
          go_quiet (fail)
          go_wp2_with fail
          go_roundw
          case rel => exact ⟨k + 1, y, by omega, hy, by go_num, rfl, HT, Lib.hid ⟨_, by rw [HQ.out, World.drewN_drewN]⟩⟩
          case measure => simp [intOf]; omega
      · obtain rfl : k = n + 1 := by omega
        have HTOP := Lib.hid (show IsTop v y from ⟨by rw [HVL.out]; exact hy, fun x hx => T.out.1 x (by rw [← HVL.out]; exact hx), T.out.2⟩)
        have hyl : y < l.length := by rw [← HL.out]; exact hy
        obtain ⟨y0, hy0⟩ : ∃ z, z = y := ⟨_, rfl⟩
        rw [← hy0] at HTOP
        have OL := Lib.hid (show Own .i64 3 (wr.alloc (.cells #[.int .i64 (y : Int)] 3)) w.heap.size (.slice (some ⟨wr.heap.size, 0, none⟩) 1 1) (toZ (y :: [])) from Own.laid (k := .i64) (T := 3) wr w.heap.size B1.out.size (toZ [y]) 1 rfl (by omega))
        have BL := Lib.hid (show Below w1.heap.size w1 (wr.alloc (.cells #[.int .i64 (y : Int)] 3)) from by
          have hb : Below w1.heap.size w1 wr := by rw [hq]; exact bdn (Below.refl _ _)
          exact hb.alloc hb.size _)
        have HCH := Lib.hid (show ∀ d, IsBackG l v bs y d → IsBackG l v bs y0 (d ++ []) from fun d hd => by rw [hy0, List.append_nil]; exact hd)
        have hq1 : w1.heap.size ≤ wr.heap.size := by rw [hq]; exact Nat.le_refl _
        have HBA := Lib.hid (HBS.out y hy (wr.alloc (.cells #[.int .i64 (y : Int)] 3)) (B1.out.alloc B1.out.size _))
        obtain ⟨gq, hgq⟩ : ∃ x, x = wr.heap.size := ⟨_, rfl⟩
        clear hq hq1
        go_upto_region 10 with fail
        rw [← hgq] at OL ⊢
        generalize wr.alloc (.cells #[.int .i64 (y : Int)] 3) = w3 at *
        obtain ⟨j0, j1, jl⟩ := HJ.out _ BL.out
        clear HQ HW T hlt B1 hgq hyl
        go_wp2_with fail
        refine HBA.out.mono ?_
        rintro e w4 ⟨M, rfl, hM, B4⟩
        have hMv : M = bs.getD y 0 := hM.uniq (HBM.out y (by rw [← HL.out]; exact hy)) (fun _ _ => rfl)
        subst hMv
        have O4 := Lib.hid (OL.out.below B4)
        have BB4 := Lib.hid (BL.out.trans (B4.mono BL.out.size))
        clear hM B4 OL BL HBA j0 j1 jl
        have hbk0 := (HOK.out y (by rw [← HL.out]; exact hy))
        go_wp2_with fail
        go_loopw [5, 7, 8] (fun yv ov mv wi => ∃ (z : Nat) (t : List Nat), z < n + 1 ∧ yv = .int .i64 (z : Int) ∧ mv = .int .i64 (bs.getD z 0) ∧ (t.length : Int) + blk l z ≤ 31 ∧ Hid (Own .i64 3 wi w.heap.size ov (toZ (z :: t))) ∧ Hid (∀ d, IsBackG l v bs z d → IsBackG l v bs y0 (d ++ t)) ∧ Hid (Below w1.heap.size w1 wi)) (fun yv _ _ _ => (blk l (intOf yv).toNat).toNat)
        case atStart => exact ⟨y, [], hy, rfl, rfl, by simp; omega, O4, HCH, BB4⟩
        case round =>
          clear O4 HCH BB4 hbk0
          obtain ⟨z, t, hz, rfl, rfl, hlen, O, HC, B⟩ := hrel
          have BW := Lib.hid (B0.out.trans (B.out.mono B0.out.size))
          have hzl : z < l.length := by rw [← HL.out]; exact hz
          have HZL := Lib.hid hzl
          by_cases hpos : 0 < bs.getD z 0
          · have HPOS := Lib.hid hpos
            obtain ⟨mz, hmz⟩ : ∃ m, m = bs.getD z 0 := ⟨_, rfl⟩
            have HMZ := Lib.hid hmz
            rw [← hmz] at hpos ⊢
            clear hmz hzl
            go_wp2_with fail
            go_loopw [9] (fun xv wi => ∃ x : Nat, x ≤ n + 1 ∧ xv = .int .i64 (x : Int) ∧ Hid (∀ u, u < x → via l v u z ≠ bs.getD z 0) ∧ Hid (Own .i64 3 wi w.heap.size u7 (toZ (z :: t))) ∧ Hid (Below w1.heap.size w1 wi)) (fun xv _ => n + 1 - (intOf xv).toNat)
            case atStart => exact ⟨0, by omega, rfl, Lib.hid (fun u hu => absurd hu (Nat.not_lt_zero _)), O, B⟩
            case round =>
              clear O B BW
              obtain ⟨x, hx, rfl, F, O, B⟩ := hrel
              have hxl : x < n + 1 := by
                rcases Nat.lt_or_ge x (n + 1) with g | g
                · exact g
                · exfalso
                  rcases (HBM.out z HZL.out).hit with e | ⟨u, hu, e⟩
                  · have := HPOS.out; omega
                  · exact F.out u (by have : u < l.length := hu; rw [← HL.out] at this; omega) e
              have BW := Lib.hid (B0.out.trans (B.out.mono B0.out.size))
              have HKX := Lib.hid (fun (W : World) (k : Below w1.heap.size w1 W) => HKD.out x z hxl hz W (B0.out.trans (k.mono B0.out.size)))
              have HSX := Lib.hid (fun (W : World) (k : Below w1.heap.size w1 W) => HST.out x z hxl hz W (B0.out.trans (k.mono B0.out.size)))
              have HVX := Lib.hid (fun (W : World) (k : Below w1.heap.size w1 W) => (HV.out.below (B0.out.trans (k.mono B0.out.size)) : Row .i64 W W.heap.size V v))
              have HVS := Lib.hid (fun (g : rel l x z ≠ 0) => via_str (v := v) g)
              have HVZ := Lib.hid (fun (g : rel l x z = 0) => via_zero (v := v) g)
              have HBLK := Lib.hid (fun (g : rel l x z ≠ 0) => (rel_pos g).2)
              have hrc := rel_cases l x z
              have hs01 : 0 ≤ str1 l x z ∧ str1 l x z ≤ 1 := by unfold str1; split <;> omega
              obtain ⟨vad, rfl, _, cx⟩ := HVX.out wr B.out x (by rw [HVL.out]; exact hxl)
              have hzx := HBD.out x hxl
              have HVW := Lib.hid (fun (W : World) (k : Below w1.heap.size w1 W) => (show W.cell? (vad.add x) = some (.int .i64 (v.getD x 0)) from by
                obtain ⟨_, e', _, cc⟩ := HVX.out W k x (by rw [HVL.out]; exact hxl)
                obtain rfl : vad = _ := by injection e'
                exact cc))
              obtain ⟨zx, hzx2⟩ : ∃ q, q = v.getD x 0 := ⟨_, rfl⟩
              obtain ⟨r, hr⟩ : ∃ q, q = rel l x z := ⟨_, rfl⟩
              obtain ⟨s1, hs⟩ : ∃ q, q = str1 l x z := ⟨_, rfl⟩
              simp only [← hzx2, ← hr, ← hs] at HKX HSX HVS HVZ HBLK hrc hs01 hzx HVW
              obtain ⟨j0, j1, jl⟩ := HJ.out _ B.out
              have HPS := Lib.hid (fun (X : World) (k : Below w1.heap.size w1 X) => (show X.cell? ⟨b, 0, none⟩ = some (.slice A (n + 1) c) ∧ X.cell? ⟨b, 1, none⟩ = some (.int .i64 wt) ∧ X.cell? (vad.add x) = some (.int .i64 zx) from ⟨(HJ.out X k).c0, (HJ.out X k).c1, HVW.out X k⟩))
              have hx1 : (x : Int) < (n : Int) + 1 := by omega
              have hxw : IntKind.i64.wrap ((x : Int) + 1) = (x : Int) + 1 := IntWalk.i64_in _ (by omega)
              clear cx hzx2 hs hr
              go_upto_region 14 with fail
              clear j0 j1 jl
              obtain ⟨q0, e0⟩ : ∃ x, x = wr.drew := ⟨_, rfl⟩
              have K0 := Lib.hid (show Below w1.heap.size w1 q0 from by rw [e0]; exact B.out.drew)
              have O0 := Lib.hid (show Own .i64 3 q0 w.heap.size u7 (toZ (z :: t)) from by rw [e0]; exact O.out.drewN 1)
              have F0 := HPS.out q0 K0.out
              have HE0 := Lib.hid e0
              clear e0 O B BW
              refine AnyT.begin_at tlZ (fun X => X.cell? ⟨b, 0, none⟩ = some (.slice A (n + 1) c) ∧ X.cell? ⟨b, 1, none⟩ = some (.int .i64 wt) ∧ X.cell? (vad.add x) = some (.int .i64 zx)) (by kernel_rfl) HE0.out F0 ?_
              clear F0 HE0
              intro F0
-- TAKES K1
              refine AnyT.takeD (i := 0) (d := some 41) (v := jv A (n + 1) c wt) rfl rfl (by kernel_rfl) (by kernel_rfl) (by kernel_rfl) (by kernel_rfl) (fun _ _ _ h => h) (Or.inl ⟨by rfl, fun wz hz => by obtain ⟨z0, z1, z2⟩ := hz; go_simp⟩) F0 ?_
              simp only [Act.put, List.setIfInBounds_toArray, List.set_cons_zero, List.set_cons_succ]
              refine AnyT.takeD (i := 1) (d := some 42) (v := .int .i64 (x : Int)) rfl rfl (by kernel_rfl) (by kernel_rfl) (by kernel_rfl) (by kernel_rfl) (fun _ _ _ h => h) (Or.inl ⟨by rfl, fun wz _ => by go_simp⟩) F0 ?_
              simp only [Act.put, List.setIfInBounds_toArray, List.set_cons_zero, List.set_cons_succ]
              refine AnyT.takeD (i := 2) (d := some 43) (v := .int .i64 (z : Int)) rfl rfl (by kernel_rfl) (by kernel_rfl) (by kernel_rfl) (by kernel_rfl) (fun _ _ _ h => h) (Or.inl ⟨by rfl, fun wz _ => by go_simp⟩) F0 ?_
              simp only [Act.put, List.setIfInBounds_toArray, List.set_cons_zero, List.set_cons_succ]
              -- TAKEN K1
              refine AnyT.branch (rs := [3]) (by kernel_rfl) (by simp) ?_
              refine all_cons (?_) all_nil
              refine AnyT.enter (i := 3) (d := some 44) (f := 28) (args := #[jv A (n + 1) c wt, .int .i64 (x : Int), .int .i64 (z : Int)]) rfl rfl rfl (by go_simp) (HKX.out q0 K0.out) ?_
              rintro e q1 ⟨rfl, hB1⟩
              have K1 := Lib.hid (K0.out.trans (hB1.mono K0.out.size))
              have O1 := Lib.hid (O0.out.below hB1)
              have F1 := HPS.out q1 K1.out
              refine ⟨_, rfl, fun _ => F1, ?_⟩
              clear hB1 F0 HKX K0 O0
              simp only [Act.put, List.setIfInBounds_toArray, List.set_cons_zero, List.set_cons_succ]
              by_cases hr0 : r = 0
              · have HF1 := Lib.hid (show ∀ u, u < x + 1 → via l v u z ≠ bs.getD z 0 from fun u hu => by
                  rcases Nat.lt_or_ge u x with g | g
                  · exact F.out u g
                  · obtain rfl : u = x := by omega
                    rw [HVZ.out hr0]
                    have := HPOS.out; omega)
                subst hr0
-- TAKES K2
                refine AnyT.takeD (i := 4) (d := some 45) (v := .bool true) rfl rfl (by kernel_rfl) (by kernel_rfl) (by kernel_rfl) (by kernel_rfl) (fun _ _ _ h => h) (Or.inl ⟨by rfl, fun wz _ => by go_simp⟩) F1 ?_
                simp only [Act.put, List.setIfInBounds_toArray, List.set_cons_zero, List.set_cons_succ]
                refine AnyT.takeD (i := 5) (d := some 46) (v := .bool true) rfl rfl (by kernel_rfl) (by kernel_rfl) (by kernel_rfl) (by kernel_rfl) (fun _ _ _ h => h) (Or.inl ⟨by rfl, fun wz _ => by go_simp⟩) F1 ?_
                simp only [Act.put, List.setIfInBounds_toArray, List.set_cons_zero, List.set_cons_succ]
                refine AnyT.takeD (i := 6) (d := some 47) (v := undef) rfl rfl (by kernel_rfl) (by kernel_rfl) (by kernel_rfl) (by kernel_rfl) (fun _ _ _ h => h) (Or.inr ⟨by rfl, rfl⟩) F1 ?_
                simp only [Act.put, List.setIfInBounds_toArray, List.set_cons_zero, List.set_cons_succ]
                refine AnyT.takeD (i := 7) (d := some 48) (v := undef) rfl rfl (by kernel_rfl) (by kernel_rfl) (by kernel_rfl) (by kernel_rfl) (fun _ _ _ h => h) (Or.inr ⟨by rfl, rfl⟩) F1 ?_
                simp only [Act.put, List.setIfInBounds_toArray, List.set_cons_zero, List.set_cons_succ]
                refine AnyT.takeD (i := 8) (d := some 49) (v := undef) rfl rfl (by kernel_rfl) (by kernel_rfl) (by kernel_rfl) (by kernel_rfl) (fun _ _ _ h => h) (Or.inr ⟨by rfl, rfl⟩) F1 ?_
                simp only [Act.put, List.setIfInBounds_toArray, List.set_cons_zero, List.set_cons_succ]
                refine AnyT.takeD (i := 9) (d := some 50) (v := undef) rfl rfl (by kernel_rfl) (by kernel_rfl) (by kernel_rfl) (by kernel_rfl) (fun _ _ _ h => h) (Or.inr ⟨by rfl, rfl⟩) F1 ?_
                simp only [Act.put, List.setIfInBounds_toArray, List.set_cons_zero, List.set_cons_succ]
                refine AnyT.takeD (i := 10) (d := some 51) (v := undef) rfl rfl (by kernel_rfl) (by kernel_rfl) (by kernel_rfl) (by kernel_rfl) (fun _ _ _ h => h) (Or.inr ⟨by rfl, rfl⟩) F1 ?_
                simp only [Act.put, List.setIfInBounds_toArray, List.set_cons_zero, List.set_cons_succ]
                refine AnyT.takeD (i := 11) (d := some 52) (v := undef) rfl rfl (by kernel_rfl) (by kernel_rfl) (by kernel_rfl) (by kernel_rfl) (fun _ _ _ h => h) (Or.inr ⟨by rfl, rfl⟩) F1 ?_
                simp only [Act.put, List.setIfInBounds_toArray, List.set_cons_zero, List.set_cons_succ]
                refine AnyT.takeD (i := 12) (d := some 53) (v := undef) rfl rfl (by kernel_rfl) (by kernel_rfl) (by kernel_rfl) (by kernel_rfl) (fun _ _ _ h => h) (Or.inr ⟨by rfl, rfl⟩) F1 ?_
                simp only [Act.put, List.setIfInBounds_toArray, List.set_cons_zero, List.set_cons_succ]
                refine AnyT.takeD (i := 13) (d := some 54) (v := undef) rfl rfl (by kernel_rfl) (by kernel_rfl) (by kernel_rfl) (by kernel_rfl) (fun _ _ _ h => h) (Or.inr ⟨by rfl, rfl⟩) F1 ?_
                simp only [Act.put, List.setIfInBounds_toArray, List.set_cons_zero, List.set_cons_succ]
                refine AnyT.takeD (i := 14) (d := some 55) (v := undef) rfl rfl (by kernel_rfl) (by kernel_rfl) (by kernel_rfl) (by kernel_rfl) (fun _ _ _ h => h) (Or.inr ⟨by rfl, rfl⟩) F1 ?_
                simp only [Act.put, List.setIfInBounds_toArray, List.set_cons_zero, List.set_cons_succ]
                refine AnyT.takeD (i := 15) (d := some 56) (v := undef) rfl rfl (by kernel_rfl) (by kernel_rfl) (by kernel_rfl) (by kernel_rfl) (fun _ _ _ h => h) (Or.inr ⟨by rfl, rfl⟩) F1 ?_
                simp only [Act.put, List.setIfInBounds_toArray, List.set_cons_zero, List.set_cons_succ]
                refine AnyT.takeD (i := 16) (d := some 57) (v := undef) rfl rfl (by kernel_rfl) (by kernel_rfl) (by kernel_rfl) (by kernel_rfl) (fun _ _ _ h => h) (Or.inr ⟨by rfl, rfl⟩) F1 ?_
                simp only [Act.put, List.setIfInBounds_toArray, List.set_cons_zero, List.set_cons_succ]
                refine AnyT.takeD (i := 17) (d := some 58) (v := .bool true) rfl rfl (by kernel_rfl) (by kernel_rfl) (by kernel_rfl) (by kernel_rfl) (fun _ _ _ h => h) (Or.inl ⟨by rfl, fun wz _ => by go_simp⟩) F1 ?_
                simp only [Act.put, List.setIfInBounds_toArray, List.set_cons_zero, List.set_cons_succ]
                -- TAKEN K2
                refine AnyT.done_ (by kernel_rfl) ?_ _
                clear F1 HPS HSX HVW HVS HVZ HBLK
                go_wp2_with fail
                go_roundw
                case rel => exact ⟨x + 1, by omega, by go_num, HF1, O1, K1⟩
                case measure => simp [intOf]; omega
              · have hrz : (r == 0) = false := by simpa using hr0
                have hwr : IntKind.i64.wrap (zx + s1) = zx + s1 := IntWalk.i64_in _ (by omega)
-- TAKES K3
                refine AnyT.takeD (i := 4) (d := some 45) (v := .bool false) rfl rfl (by kernel_rfl) (by kernel_rfl) (by kernel_rfl) (by kernel_rfl) (fun _ _ _ h => h) (Or.inl ⟨by rfl, fun wz _ => by go_simp⟩) F1 ?_
                simp only [Act.put, List.setIfInBounds_toArray, List.set_cons_zero, List.set_cons_succ]
                refine AnyT.takeD (i := 5) (d := some 46) (v := .bool false) rfl rfl (by kernel_rfl) (by kernel_rfl) (by kernel_rfl) (by kernel_rfl) (fun _ _ _ h => h) (Or.inl ⟨by rfl, fun wz _ => by go_simp⟩) F1 ?_
                simp only [Act.put, List.setIfInBounds_toArray, List.set_cons_zero, List.set_cons_succ]
                refine AnyT.takeD (i := 6) (d := some 47) (v := .slice (some vad) (n + 1) cv) rfl rfl (by kernel_rfl) (by kernel_rfl) (by kernel_rfl) (by kernel_rfl) (fun _ _ _ h => h) (Or.inl ⟨by rfl, fun wz _ => by go_simp⟩) F1 ?_
                simp only [Act.put, List.setIfInBounds_toArray, List.set_cons_zero, List.set_cons_succ]
                refine AnyT.takeD (i := 7) (d := some 48) (v := .int .i64 (x : Int)) rfl rfl (by kernel_rfl) (by kernel_rfl) (by kernel_rfl) (by kernel_rfl) (fun _ _ _ h => h) (Or.inl ⟨by rfl, fun wz _ => by go_simp⟩) F1 ?_
                simp only [Act.put, List.setIfInBounds_toArray, List.set_cons_zero, List.set_cons_succ]
                refine AnyT.takeD (i := 8) (d := some 49) (v := .pointer (some (vad.add x))) rfl rfl (by kernel_rfl) (by kernel_rfl) (by kernel_rfl) (by kernel_rfl) (fun _ _ _ h => h) (Or.inl ⟨by rfl, fun wz _ => by go_simp⟩) F1 ?_
                simp only [Act.put, List.setIfInBounds_toArray, List.set_cons_zero, List.set_cons_succ]
                refine AnyT.takeD (i := 9) (d := some 50) (v := .int .i64 zx) rfl rfl (by kernel_rfl) (by kernel_rfl) (by kernel_rfl) (by kernel_rfl) (fun _ _ _ h => h) (Or.inl ⟨by rfl, fun wz hz => by obtain ⟨z0, z1, z2⟩ := hz; go_simp⟩) F1 ?_
                simp only [Act.put, List.setIfInBounds_toArray, List.set_cons_zero, List.set_cons_succ]
                refine AnyT.takeD (i := 10) (d := some 51) (v := jv A (n + 1) c wt) rfl rfl (by kernel_rfl) (by kernel_rfl) (by kernel_rfl) (by kernel_rfl) (fun _ _ _ h => h) (Or.inl ⟨by rfl, fun wz hz => by obtain ⟨z0, z1, z2⟩ := hz; go_simp⟩) F1 ?_
                simp only [Act.put, List.setIfInBounds_toArray, List.set_cons_zero, List.set_cons_succ]
                refine AnyT.takeD (i := 11) (d := some 52) (v := .int .i64 (x : Int)) rfl rfl (by kernel_rfl) (by kernel_rfl) (by kernel_rfl) (by kernel_rfl) (fun _ _ _ h => h) (Or.inl ⟨by rfl, fun wz _ => by go_simp⟩) F1 ?_
                simp only [Act.put, List.setIfInBounds_toArray, List.set_cons_zero, List.set_cons_succ]
                refine AnyT.takeD (i := 12) (d := some 53) (v := .int .i64 (z : Int)) rfl rfl (by kernel_rfl) (by kernel_rfl) (by kernel_rfl) (by kernel_rfl) (fun _ _ _ h => h) (Or.inl ⟨by rfl, fun wz _ => by go_simp⟩) F1 ?_
                simp only [Act.put, List.setIfInBounds_toArray, List.set_cons_zero, List.set_cons_succ]
                refine AnyT.takeD (i := 15) (d := some 56) (v := .int .i64 mz) rfl rfl (by kernel_rfl) (by kernel_rfl) (by kernel_rfl) (by kernel_rfl) (fun _ _ _ h => h) (Or.inl ⟨by rfl, fun wz _ => by go_simp⟩) F1 ?_
                simp only [Act.put, List.setIfInBounds_toArray, List.set_cons_zero, List.set_cons_succ]
                -- TAKEN K3
                refine AnyT.branch (rs := [13]) (by kernel_rfl) (by simp) ?_
                refine all_cons (?_) all_nil
                refine AnyT.enterZ (i := 13) (d := some 54) (f := 42) (args := #[jv A (n + 1) c wt, .int .i64 (x : Int), .int .i64 (z : Int)]) rfl (by rfl) rfl (by go_simp) (HSX.out q1 K1.out) ?_
                rintro e q2 ⟨rfl, hB2⟩
                have K2 := Lib.hid (K1.out.trans (hB2.mono K1.out.size))
                have O2 := Lib.hid (O1.out.below hB2)
                have F2 := HPS.out q2 K2.out
                refine ⟨_, rfl, fun _ => F2, ?_⟩
                clear hB2 F1 HSX K1 O1
                simp only [Act.put, List.setIfInBounds_toArray, List.set_cons_zero, List.set_cons_succ]
                by_cases hne : zx + s1 = mz
                · have hnb : (zx + s1 != mz) = false := by simp [hne]
                  have hwm : IntKind.i64.wrap mz = mz := by rw [← hne]; exact hwr
                  have hvia : via l v x z = bs.getD z 0 := by rw [HVS.out hr0, hne, HMZ.out]
                  have hbl := HBLK.out hr0
                  have HC2 := Lib.hid (show ∀ d, IsBackG l v bs x d → IsBackG l v bs y0 (d ++ (z :: t)) from fun d hd => by
                    have := HC.out (d ++ [z]) (.step z x d HPOS.out (by rw [← HL.out]; exact hxl) hvia F.out hd)
                    rwa [List.append_assoc, List.singleton_append] at this)
-- TAKES K4
                  refine AnyT.takeD (i := 14) (d := some 55) (v := .int .i64 (zx + s1)) rfl rfl (by kernel_rfl) (by kernel_rfl) (by kernel_rfl) (by kernel_rfl) (fun _ _ _ h => h) (Or.inl ⟨by rfl, fun wz _ => by go_simp⟩) F2 ?_
                  simp only [Act.put, List.setIfInBounds_toArray, List.set_cons_zero, List.set_cons_succ]
                  refine AnyT.takeD (i := 16) (d := some 57) (v := .bool false) rfl rfl (by kernel_rfl) (by kernel_rfl) (by kernel_rfl) (by kernel_rfl) (fun _ _ _ h => h) (Or.inl ⟨by rfl, fun wz _ => by go_simp⟩) F2 ?_
                  simp only [Act.put, List.setIfInBounds_toArray, List.set_cons_zero, List.set_cons_succ]
                  refine AnyT.takeD (i := 17) (d := some 58) (v := .bool false) rfl rfl (by kernel_rfl) (by kernel_rfl) (by kernel_rfl) (by kernel_rfl) (fun _ _ _ h => h) (Or.inl ⟨by rfl, fun wz _ => by go_simp⟩) F2 ?_
                  simp only [Act.put, List.setIfInBounds_toArray, List.set_cons_zero, List.set_cons_succ]
                  -- TAKEN K4
                  refine AnyT.done_ (by kernel_rfl) ?_ _
                  clear F2 HPS HVW HVS HVZ HBLK hnb hwr hrz hvia hne hwm
                  have B2 := Lib.hid (B0.out.trans (K2.out.mono B0.out.size))
                  obtain ⟨A7, c7, e7, R7, -, hm7, hA7⟩ := O2.out.slice
                  subst e7
                  have R7h := Lib.hid R7
                  have HA7 := Lib.hid hA7
                  have HM7 := Lib.hid hm7
                  have hzb := HOK.out z HZL.out
                  have hxb := HOK.out x (by rw [← HL.out]; exact hxl)
                  have HM := Lib.hid (show (toZ (z :: t)).length ≤ 32 by rw [toZ_len, List.length_cons]; omega)
                  obtain ⟨m7, em7⟩ : ∃ m, m = (toZ (z :: t)).length := ⟨_, rfl⟩
                  have HME := Lib.hid em7
                  have HNA := Lib.hid (show A7 = none → m7 = 0 ∧ c7 = 0 from fun e => by
                    obtain ⟨g, h1, _⟩ := HA7.out (by rw [toZ_len, List.length_cons]; omega)
                    rw [e] at h1; cases h1)
                  rw [← em7] at O2 ⊢
                  have HM2 := Lib.hid (show m7 ≤ 32 by rw [em7]; exact HM.out)
                  have OL := Lib.hid (show Own .i64 3 (q2.alloc (.cells #[.int .i64 (x : Int)] 3)) w.heap.size (.slice (some ⟨q2.heap.size, 0, none⟩) 1 1) (toZ (x :: [])) from Own.laid (k := .i64) (T := 3) q2 w.heap.size B2.out.size (toZ [x]) 1 rfl (by omega))
                  have HB0 := Lib.hid (show w.heap.size ≤ (q2.alloc (.cells #[.int .i64 (x : Int)] 3)).heap.size from Nat.le_trans B2.out.size (by simp))
                  have RN := Lib.hid (Row.newsO (R7h.out.below ((Below.refl q2.heap.size q2).alloc (Nat.le_refl _) (.cells #[.int .i64 (x : Int)] 3))))
                  have KA := Lib.hid (K2.out.alloc K2.out.size (.cells #[.int .i64 (x : Int)] 3))
                  have KSZ := Lib.hid K2.out.size
                  have HEL := Lib.hid (show 1 + m7 = (toZ (x :: z :: t)).length by rw [HME.out]; simp only [toZ_len, List.length_cons]; omega)
                  obtain ⟨i0, hi, hz0, hz1, hz2⟩ := info_parts infoIntW
                  clear R7 hA7 hm7 em7 HM HA7 O2 K2 B2 R7h
                  go_upto_region 17 with (first | (at_builtin; refine wpList_app_src rfl (.tmp 62) (.tmp 63) 22 rfl w.heap.size 3 i0 (.int .i64 0) 1 8 Try.underlying22 hi hz0 hz1 hz2 rfl (by decide) (.slice (some ⟨q2.heap.size, 0, none⟩) 1 1) 1 [.int .i64 (x : Int)] rfl OL.out A7 m7 c7 ((toZ (z :: t)).map (Value.int .i64)) rfl HNA.out (by rw [List.length_map, HME.out]; omega) RN.out one_cells (by have := HM2.out; unfold maxLen; omega) (by have := HM2.out; omega) HB0.out ?_; intro v7 w7 hown hg; have O7 := Lib.hid (show Own .i64 3 w7 w.heap.size v7 (toZ (x :: z :: t)) from (by rw [HEL.out] at hown; exact hown)); have K7 := Lib.hid (KA.out.grown hg KA.out.size (fun k e => (by have h1 := KSZ.out; simp [Value.ownBlock] at e; omega))); clear hown hg OL RN KA KSZ HB0))
                  have HBA := Lib.hid (HBS.out x hxl w7 (B0.out.trans (K7.out.mono B0.out.size)))
                  obtain ⟨j0, j1, jl⟩ := HJ.out _ K7.out
                  go_wp2_with fail
                  refine HBA.out.mono ?_
                  rintro e w8 ⟨M, rfl, hM, B8⟩
                  have hMv : M = bs.getD x 0 := hM.uniq (HBM.out x (by rw [← HL.out]; exact hxl)) (fun _ _ => rfl)
                  subst hMv
                  have O8 := Lib.hid (O7.out.below B8)
                  have K8 := Lib.hid (K7.out.trans (B8.mono K7.out.size))
                  clear hM B8 O7 K7 HBA j0 j1 jl
                  go_wp2_with fail
                  go_roundw
                  case rel => exact ⟨x, z :: t, hxl, rfl, rfl, by rw [List.length_cons]; omega, O8, HC2, K8⟩
                  case measure => simp [intOf]; omega
                · have hnb : (zx + s1 != mz) = true := by simpa using hne
                  have HF1 := Lib.hid (show ∀ u, u < x + 1 → via l v u z ≠ bs.getD z 0 from fun u hu => by
                    rcases Nat.lt_or_ge u x with g | g
                    · exact F.out u g
                    · obtain rfl : u = x := by omega
                      rw [HVS.out hr0, ← HMZ.out]
                      exact hne)
-- TAKES K5
                  refine AnyT.takeD (i := 14) (d := some 55) (v := .int .i64 (zx + s1)) rfl rfl (by kernel_rfl) (by kernel_rfl) (by kernel_rfl) (by kernel_rfl) (fun _ _ _ h => h) (Or.inl ⟨by rfl, fun wz _ => by go_simp⟩) F2 ?_
                  simp only [Act.put, List.setIfInBounds_toArray, List.set_cons_zero, List.set_cons_succ]
                  refine AnyT.takeD (i := 16) (d := some 57) (v := .bool true) rfl rfl (by kernel_rfl) (by kernel_rfl) (by kernel_rfl) (by kernel_rfl) (fun _ _ _ h => h) (Or.inl ⟨by rfl, fun wz _ => by go_simp⟩) F2 ?_
                  simp only [Act.put, List.setIfInBounds_toArray, List.set_cons_zero, List.set_cons_succ]
                  refine AnyT.takeD (i := 17) (d := some 58) (v := .bool true) rfl rfl (by kernel_rfl) (by kernel_rfl) (by kernel_rfl) (by kernel_rfl) (fun _ _ _ h => h) (Or.inl ⟨by rfl, fun wz _ => by go_simp⟩) F2 ?_
                  simp only [Act.put, List.setIfInBounds_toArray, List.set_cons_zero, List.set_cons_succ]
                  -- TAKEN K5
                  refine AnyT.done_ (by kernel_rfl) ?_ _
                  clear F2 HPS HVW HVS HVZ HBLK hnb hwr hrz hne
                  go_wp2_with fail
                  go_roundw
                  case rel => exact ⟨x + 1, by omega, by go_num, HF1, O2, K2⟩
                  case measure => simp [intOf]; omega
          · have hb0 := (HBM.out z hzl).pos
            have h0 : ¬ (0 : Int) < bs.getD z 0 := hpos
            have HFB := Lib.hid (show IsBackG l v bs y0 (z :: t) from HC.out [z] (.one z (by omega)))
            clear HC hpos hb0
            generalize bs.getD z 0 = mz at *
            go_wp2_with fail
            go_ret
            exact ⟨_, toZ (z :: t), rfl, O.out, Or.inr ⟨y0, z :: t, HTOP.out, HFB.out, rfl⟩, BW.out⟩
end Go.Proofs.Ytpimdcljecipeaa
