/-
  Stage 9: the first error of a layout (the program).
-/
import Derived.Test.YtdoifaifhikkjaaGreatDoorLTree
import Derived.Test.YtdoifaifhikkjaaGreatDoorLMap
set_option linter.unusedSimpArgs false
set_option linter.unusedVariables false
namespace Go.Proofs.YtdoifaifhikkjaaGreatDoor
open Go.RowKit Go.Lib

theorem elemEl : Tryz.prog.elem 23 = 39 := by kernel_rfl
theorem slice_els (A : Option Addr) (L c k : Nat) (W : World) (hm : k ≤ c) : (Instr.slice 23 (.slice A L c) none (some (.int .i64 (k : Int))) none).run Tryz.prog W = .ok (.slice A k c) W := by
  rw [run_slice_h (P := Tryz.prog) W 23 A L c (by rw [elemEl]; exact Tryz.underlying23) .i64 (k : Int) (by omega) (by omega), elemEl]
  simp [sizeEl, Result.andThen, sliced]
  intro _; cases A <;> simp [Addr.add]
def VdPost (l : List El) (w : World) (e : Ending) (w' : World) : Prop := e = .returned (.int .i64 (validE l)) ∧ Below w.heap.size w w'
theorem VdPost.mk' {l : List El} {w w' : World} {v : Int} (h : validE l = v) (b : Below w.heap.size w w') : VdPost l w (.returned (.int .i64 v)) w' := ⟨by rw [h], b⟩
theorem validE_bad {l : List El} {k : Nat} {x : El} {e : Int} (h : ¬ 128 < l.length) (hl : l.length ≠ 0) (hv : vlE [] l = vlE (l.take k) (l.drop k)) (hd : l.drop k = x :: l.drop (k + 1)) (hs : stepE (l.take k) x = e) (he : e ≠ 0) : validE l = e := by
  have : vlE [] l = e := by rw [hv, hd, vlE_bad (by rw [hs]; exact he), hs]
  unfold validE
  rw [if_neg h, if_neg hl, if_neg (by rw [this]; exact he), this]
theorem tree_ok {l : List El} (h : vlE [] l = 0) : TreeOk l := by
  intro k x hx
  have h1 := vlE_zero h hx
  obtain ⟨s1, s2, s3, s4⟩ := stepE_parts h1
  rw [List.nil_append] at s4
  refine ⟨?_, fun h0 => ?_⟩
  · unfold soundE at s1
    by_cases g0 : x.kind = 0
    · omega
    · rw [if_neg g0] at s1
      by_cases g2 : x.kind = 2
      · omega
      · rw [if_neg g2] at s1
        by_cases g1 : x.kind = 1 ∨ x.kind = 3 ∨ x.kind = 4
        · omega
        · rw [if_neg g1] at s1; cases s1
  · obtain ⟨p1, p2, _⟩ := placeE_parts s4 h0
    rw [List.length_take] at p2
    omega
theorem step_sound {seen : List El} {x : El} (h : soundE x = false) : stepE seen x = 1 := by unfold stepE; rw [if_pos (Or.inl h)]
theorem step_crest {seen : List El} {x : El} (h : ¬ (x.kind = 0 ↔ seen.length = 0)) : stepE seen x = 1 := by unfold stepE; rw [if_pos (Or.inr h)]
theorem step_dup {seen : List El} {x : El} (h : soundE x = true) (h2 : x.kind = 0 ↔ seen.length = 0) (hd : x.name ∈ seen.map El.name) : stepE seen x = 8 := by
  unfold stepE; rw [if_neg (by rintro (g | g); rw [h] at g; cases g; exact g h2), if_pos hd]
theorem step_place {seen : List El} {x : El} (h : soundE x = true) (h2 : x.kind = 0 ↔ seen.length = 0) (hd : x.name ∉ seen.map El.name) : stepE seen x = placeE x seen := by
  unfold stepE; rw [if_neg (by rintro (g | g); rw [h] at g; cases g; exact g h2), if_neg hd]
/-- The names are no longer than memory. -/
def SzE (l : List El) : Prop := ∀ x ∈ l, x.name.size ≤ maxLen
set_option maxRecDepth 100000 in
set_option maxHeartbeats 3200000 in
theorem valid_any (l : List El) (A : Option Addr) (c : Nat) (w : World) (h : RRow ER w A l) (hA : PlainA A) (hc : l.length ≤ c) (D : Dor w) (hz : SzE l) :
    Calls Tryz.prog 14 #[.slice A l.length c] w (VdPost l w) := by
  have hl : l.length ≤ 9223372036854775807 := h.len
  by_cases hbig : 128 < l.length
  · have HP := Lib.hid (show validE l = 3 by unfold validE; rw [if_pos hbig])
    have hb : (128 : Int) < (l.length : Int) := by omega
    clear h
    go_enter Tryz.func14, Tryz.ntmps14
    go_wp2_with fail
    go_ret
    exact VdPost.mk' HP.out (Below.refl _ _)
  by_cases hnil : l.length = 0
  · have HP := Lib.hid (show validE l = 13 by unfold validE; rw [if_neg hbig, if_pos hnil])
    rw [hnil]
    clear h hc hbig
    go_enter Tryz.func14, Tryz.ntmps14
    go_wp2_with fail
    go_ret
    exact VdPost.mk' HP.out (Below.refl _ _)
  have H := Lib.hid h
  have HSZ := Lib.hid hz
  have HA := Lib.hid hA
  have HD := Lib.hid D
  obtain ⟨L, hL⟩ : ∃ n, n = l.length := ⟨_, rfl⟩
  have HL := Lib.hid hL
  have hn0 : L ≠ 0 := by rw [hL]; exact hnil
  have e0 : ((L : Int) == 0) = false := beq_eq_false_iff_ne.2 (by omega)
  have HBG := Lib.hid hbig
  have HN0 := Lib.hid hnil
  rw [← hL] at hl hbig hc ⊢
  clear h hL hz hA D hnil
  have hmm : ∀ w, (Instr.makeMap 64 (some (.int .i64 (L : Int)))).run Tryz.prog w = .ok (.map (some w.heap.size)) (w.alloc (.map #[] 0)) := fun w => by
    simp [Instr.makeMap, run_underlying Tryz.underlying64, Result.andThen, asInt, asIntOf]
  go_enter Tryz.func14, Tryz.ntmps14
  go_wp2_with fail
  go_loopw [18] (fun i wr => ∃ k : Nat, k ≤ L ∧ i = .int .i64 k ∧ Hid (vlE [] l = vlE (l.take k) (l.drop k)) ∧ Hid (BMap wr w.heap.size k ((l.take k).map El.name)) ∧ Hid (Below w.heap.size w wr)) (fun i _ => L - (intOf i).toNat)
  case atStart => exact ⟨0, by omega, rfl, Lib.hid rfl, Lib.hid (BMap.made w), Lib.hid ((Below.refl _ _).alloc (Nat.le_refl _) _)⟩
  case round =>
    clear hmm
    obtain ⟨k, hk, rfl, V, M, B⟩ := hrel
    by_cases hlt : k < L
    · obtain ⟨x, hx, hd, ht⟩ := drop_ex (l := l) (k := k) (by rw [← HL.out]; exact hlt)
      obtain ⟨ad, rfl, C⟩ := (H.out.below B.out).at_ hx
      obtain ⟨c0, c1, c2, c3, c4, c5, c6, c7⟩ := ESpelt.of C
      have HV := Lib.hid V.out
      have HDR := Lib.hid hd
      have HT := Lib.hid ht
      have hsz := HSZ.out x (List.mem_of_getElem? hx)
      have HSX := Lib.hid hsz
      have hsx := sound_any x (wr.alloc (.cells #[.int .i64 x.kind, .string x.name, .int .i64 x.par, .int .i64 x.side, .int .i64 x.len, .int .i64 x.gra, .int .i64 x.cur, .int .i64 x.pow] 39)) hsz
      have HSC := Lib.hid hsx
      have hml := M.out.lt
      have HML := Lib.hid hml
      clear hx hd ht V C hsz hsx hml
      go_wp2_with fail
      refine HSC.out.mono ?_
      rintro e w1 ⟨rfl, B1⟩
      clear c0 c1 c2 c3 c4 c5 c6 c7 HSC
      have HX := Lib.hid (EBlk.of ((newE wr x 39 wr.heap.size rfl).below B1))
      have BB := Lib.hid (B.out.trans ((below1 B1).mono B.out.size))
      have M1 := Lib.hid ((M.out.alloc (.cells #[.int .i64 x.kind, .string x.name, .int .i64 x.par, .int .i64 x.side, .int .i64 x.len, .int .i64 x.gra, .int .i64 x.cur, .int .i64 x.pow] 39)).below B1)
      clear B1 M B
      have HKL := Lib.hid (show (l.take k).length = k by rw [List.length_take, ← HL.out]; omega)
      have HBAD := Lib.hid (fun (e : Int) (hs : stepE (l.take k) x = e) (he : e ≠ 0) => validE_bad HBG.out HN0.out HV.out HDR.out hs he)
      cases hsd : soundE x with
      | false =>
        have HV2 := Lib.hid (HBAD.out 1 (step_sound hsd) (by decide))
        clear hsd
        go_wp2_with fail
        go_ret
        exact VdPost.mk' HV2.out BB.out
      | true =>
        have HSD := Lib.hid hsd
        have c0 := HX.out.c0
        clear hsd
        by_cases hcr : x.kind = 0 ↔ k = 0
        · have hq : (!((x.kind == 0) == ((k : Int) == 0))) = false := by
            by_cases k0 : k = 0
            · rw [beq_iff_eq.2 (hcr.2 k0), beq_iff_eq.2 (show (k : Int) = 0 by omega)]; rfl
            · rw [beq_eq_false_iff_ne.2 (fun g => k0 (hcr.1 g)), beq_eq_false_iff_ne.2 (show (k : Int) ≠ 0 by omega)]; rfl
          have hcr2 : x.kind = 0 ↔ (l.take k).length = 0 := by rw [HKL.out]; exact hcr
          have HCR := Lib.hid hcr2
          have c1 := HX.out.c1
          have hlook := M1.out.look x.name HSX.out
          clear hcr hcr2
          by_cases hm : x.name ∈ (l.take k).map El.name
          · have HV2 := Lib.hid (HBAD.out 8 (step_dup HSD.out HCR.out hm) (by decide))
            rw [decide_eq_true hm] at hlook
            clear hm
            go_wp2_with fail
            go_ret
            exact VdPost.mk' HV2.out BB.out
          · have HSP := Lib.hid (step_place HSD.out HCR.out hm)
            rw [decide_eq_false hm] at hlook
            clear hm
            obtain ⟨w3, hput, M3, G3⟩ := M1.out.put (by unfold maxLen; omega) x.name HSX.out
            have M3' := Lib.hid M3
            have hwlt := M1.out.lt
            have BG := Lib.hid (BB.out.grown G3 (by have := BB.out.size; omega) (fun j hj => by injection hj with hj; omega))
            have HX3 : EBlk w3 wr.heap.size x := by
              have hne : some wr.heap.size ≠ some w.heap.size := by have := HML.out; simp; omega
              obtain ⟨c0, c1, c2, c3, c4, c5, c6, c7, lt⟩ := HX.out
              exact ⟨G3.cell c0 hne, G3.cell c1 hne, G3.cell c2 hne, G3.cell c3 hne, G3.cell c4 hne, G3.cell c5 hne, G3.cell c6 hne, G3.cell c7 hne, Nat.lt_of_lt_of_le lt G3.size⟩
            have HX3' := Lib.hid HX3
            have KP := Lib.hid (fun (W : World) (hb : Below w3.heap.size w3 W) => (show W.cell? ⟨wr.heap.size, 0, none⟩ = some (.int .i64 x.kind) ∧ W.cell? ⟨wr.heap.size, 1, none⟩ = some (.string x.name) ∧ W.cell? ⟨wr.heap.size, 2, none⟩ = some (.int .i64 x.par) ∧ W.cell? ⟨wr.heap.size, 3, none⟩ = some (.int .i64 x.side) ∧ W.cell? ⟨wr.heap.size, 4, none⟩ = some (.int .i64 x.len) ∧ W.cell? ⟨wr.heap.size, 5, none⟩ = some (.int .i64 x.gra) ∧ W.cell? ⟨wr.heap.size, 6, none⟩ = some (.int .i64 x.cur) ∧ W.cell? ⟨wr.heap.size, 7, none⟩ = some (.int .i64 x.pow) from by
              obtain ⟨c0, c1, c2, c3, c4, c5, c6, c7, lt⟩ := HX3'.out
              exact ⟨(hb.cell (p := ⟨_, 0, none⟩) lt).trans c0, (hb.cell (p := ⟨_, 1, none⟩) lt).trans c1, (hb.cell (p := ⟨_, 2, none⟩) lt).trans c2, (hb.cell (p := ⟨_, 3, none⟩) lt).trans c3, (hb.cell (p := ⟨_, 4, none⟩) lt).trans c4, (hb.cell (p := ⟨_, 5, none⟩) lt).trans c5, (hb.cell (p := ⟨_, 6, none⟩) lt).trans c6, (hb.cell (p := ⟨_, 7, none⟩) lt).trans c7⟩))
            have HCP := Lib.hid (fun (W : World) (hb : Below w3.heap.size w3 W) => (show Calls Tryz.prog 23 #[aggE x, .slice (some ad) k c] W (fun e w' => e = .returned (.int .i64 (placeE x (l.take k))) ∧ Below W.heap.size W w') from by
              have := place_any x (l.take k) (some ad) c W ((H.out.below (BG.out.trans (hb.mono BG.out.size))).take k) HA.out
              rw [HKL.out] at this
              exact this))
            have hslc := fun W => slice_els (some ad) L c k W (by omega)
            obtain ⟨ev, hev⟩ : ∃ ev, ev = placeE x (l.take k) := ⟨_, rfl⟩
            rw [← hev] at HCP HSP
            clear M3 G3 hwlt HX3 hev
            go_upto_region 14 with fail
            clear c0 c1 hlook hput hq
            obtain ⟨c0, c1, c2, c3, c4, c5, c6, c7⟩ := KP.out w3 (Below.refl _ _)
            have b1 : Below w3.heap.size w3 w3.drew := ⟨rfl, rfl, rfl, Nat.le_refl _, fun _ _ => rfl⟩
            have HB1 := Lib.hid b1
            have HCP1 := Lib.hid (HCP.out _ b1)
            clear b1
            go_region_held3 (fun W => W.cell? ⟨wr.heap.size, 0, none⟩ = some (.int .i64 x.kind) ∧ W.cell? ⟨wr.heap.size, 1, none⟩ = some (.string x.name) ∧ W.cell? ⟨wr.heap.size, 2, none⟩ = some (.int .i64 x.par) ∧ W.cell? ⟨wr.heap.size, 3, none⟩ = some (.int .i64 x.side) ∧ W.cell? ⟨wr.heap.size, 4, none⟩ = some (.int .i64 x.len) ∧ W.cell? ⟨wr.heap.size, 5, none⟩ = some (.int .i64 x.gra) ∧ W.cell? ⟨wr.heap.size, 6, none⟩ = some (.int .i64 x.cur) ∧ W.cell? ⟨wr.heap.size, 7, none⟩ = some (.int .i64 x.pow))
              (first | exact KP.out _ ⟨rfl, rfl, rfl, Nat.le_refl _, fun _ _ => rfl⟩ | exact KP.out _ (HB1.out.trans kb))
              (first | (go_at_call 23; refine HCP1.out.mono ?_; rintro e wh ⟨rfl, kb⟩))
            all_goals
              clear c0 c1 c2 c3 c4 c5 c6 c7
              have HKB := Lib.hid (show Below w3.heap.size w3 wh from HB1.out.trans kb)
              have BBB := Lib.hid (BG.out.trans (HKB.out.mono BG.out.size))
              clear kb hslc
              by_cases he : ev = 0
              · have ee : (ev != 0) = false := by rw [he]; rfl
                have HSS := Lib.hid (HSP.out.trans he)
                have HVK := Lib.hid (show vlE [] l = vlE (l.take (k + 1)) (l.drop (k + 1)) by rw [HV.out, HDR.out, vlE_ok HSS.out, HT.out])
                have HMK := Lib.hid (M3'.out.below HKB.out)
                clear he
                go_wp2_with fail
                go_roundw
                case rel => exact ⟨k + 1, by omega, by go_num, HVK, Lib.hid (by rw [HT.out, List.map_append]; exact HMK.out), BBB⟩
                case measure => simp [intOf]; omega
              · have ee : (ev != 0) = true := bne_iff_ne.2 he
                have HV2 := Lib.hid (HBAD.out ev HSP.out he)
                clear he
                go_wp2_with fail
                go_ret
                exact VdPost.mk' HV2.out BBB.out
        · have HV2 := Lib.hid (HBAD.out 1 (step_crest (by rw [HKL.out]; exact hcr)) (by decide))
          by_cases k0 : k = 0
          · subst k0
            have x0 : (x.kind == 0) = false := beq_eq_false_iff_ne.2 (fun g => hcr ⟨fun _ => rfl, fun _ => g⟩)
            clear hcr
            go_wp2_with fail
            go_ret
            exact VdPost.mk' HV2.out BB.out
          · have x0 : (x.kind == 0) = true := beq_iff_eq.2 (Decidable.of_not_not fun g => hcr ⟨fun q => absurd q g, fun q => absurd q k0⟩)
            have kk : ((k : Int) == 0) = false := beq_eq_false_iff_ne.2 (by omega)
            clear hcr k0
            go_wp2_with fail
            go_ret
            exact VdPost.mk' HV2.out BB.out
    · obtain rfl : k = L := by omega
      have hv := V.out
      rw [HL.out, List.drop_length] at hv
      replace hv : vlE [] l = 0 := hv
      have HV := Lib.hid (show validE l = treeE l by unfold validE; rw [if_neg HBG.out, if_neg HN0.out, if_pos hv])
      have htc := tree_any l A c wr (H.out.below B.out) (HD.out.below B.out) (by have := HBG.out; omega) (tree_ok hv)
      rw [← HL.out] at htc
      have HTC := Lib.hid htc
      clear htc hv hlt
      go_wp2_with fail
      refine HTC.out.mono ?_
      rintro e w' ⟨rfl, B1⟩
      go_wp2_with fail
      go_ret
      exact VdPost.mk' HV.out (B.out.trans (B1.mono B.out.size))
end Go.Proofs.YtdoifaifhikkjaaGreatDoor
