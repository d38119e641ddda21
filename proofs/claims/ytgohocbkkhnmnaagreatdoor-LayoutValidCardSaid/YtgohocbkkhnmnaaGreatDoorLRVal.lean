/-
  Stage 9: the first error of a layout (the reference).
-/
import Derived.Test.YtgohocbkkhnmnaaGreatDoorLRFit
set_option linter.unusedSimpArgs false
set_option linter.unusedVariables false
namespace Go.Proofs.YtgohocbkkhnmnaaGreatDoor
open Go.RowKit Go.Lib

theorem validE_tree {l : List El} (h1 : ¬ 128 < l.length) (h2 : l.length ≠ 0) (h3 : vlE [] l = 0) : validE l = treeE l := by
  unfold validE
  rw [if_neg h1, if_neg h2, if_pos h3]
theorem treeE_bad {l : List El} (h : fullE l l.length = false) : treeE l = 13 := by unfold treeE; rw [if_pos h]
theorem treeE_lim {l : List El} (h : fullE l l.length = true) (h2 : 32 < trks l) : treeE l = 3 := by unfold treeE; rw [if_neg (by rw [h]; decide), if_pos h2]
theorem treeE_ok {l : List El} (h : fullE l l.length = true) (h2 : ¬ 32 < trks l) : treeE l = 0 := by unfold treeE; rw [if_neg (by rw [h]; decide), if_neg h2]
/-- The names are short enough to be counted. -/
def SzF (l : List El) : Prop := ∀ x ∈ l, x.name.size ≤ 4611686018427387904
set_option maxRecDepth 100000 in
set_option maxHeartbeats 6400000 in
theorem rvalid_any (l : List El) (A : Option Addr) (c : Nat) (w : World) (H : RRow ER w A l) (hz : SzF l) :
    Calls Tryz.prog 16 #[.slice A l.length c] w (VdPost l w) := by
  have hl : l.length ≤ 9223372036854775807 := H.len
  by_cases hbig : 128 < l.length
  · have HP := Lib.hid (show validE l = 3 by unfold validE; rw [if_pos hbig])
    have hb : (128 : Int) < (l.length : Int) := by omega
    clear H
    go_enter Tryz.func16, Tryz.ntmps16
    go_wp2_with fail
    go_ret
    exact VdPost.mk' HP.out (Below.refl _ _)
  by_cases hnil : l.length = 0
  · have HP := Lib.hid (show validE l = 13 by unfold validE; rw [if_neg hbig, if_pos hnil])
    rw [hnil]
    clear H hbig
    go_enter Tryz.func16, Tryz.ntmps16
    go_wp2_with fail
    go_ret
    exact VdPost.mk' HP.out (Below.refl _ _)
  have HH := Lib.hid H
  have HZ := Lib.hid hz
  have HBG := Lib.hid hbig
  have HN0 := Lib.hid hnil
  obtain ⟨L, hL⟩ : ∃ n, n = l.length := ⟨_, rfl⟩
  have HL := Lib.hid hL
  have e0 : ((L : Int) == 0) = false := beq_eq_false_iff_ne.2 (by omega)
  have hL1 : 1 ≤ L := by omega
  rw [← hL] at hl hbig ⊢
  clear H hz hL hnil
  go_enter Tryz.func16, Tryz.ntmps16
  go_wp2_with fail
  go_loopw [3, 4] (fun tv iv wr => ∃ i t : Nat, i ≤ L ∧ t ≤ i ∧ iv = .int .i64 (i : Int) ∧ tv = .int .i64 (t : Int) ∧ Hid (vlE [] l = vlE (l.take i) (l.drop i)) ∧ Hid (vlE [] (l.take i) = 0) ∧ Hid (t = trks (l.take i)) ∧ Hid (Below w.heap.size w wr)) (fun _ iv _ => L - (intOf iv).toNat)
  case atStart => exact ⟨0, 0, by omega, by omega, rfl, rfl, Lib.hid rfl, Lib.hid rfl, Lib.hid rfl, Lib.hid (Below.refl _ _)⟩
  case round =>
    obtain ⟨i, t, hi, ht, rfl, rfl, HV, HP, HT, HB⟩ := hrel
    by_cases hlt : i < L
    · have hlt' : (i : Int) < (L : Int) := by omega
      obtain ⟨x, hx, hd, htk⟩ := drop_ex (l := l) (k := i) (by rw [← HL.out]; exact hlt)
      have hf := fits_any l A c i x wr (HH.out.below HB.out) hx (HZ.out x (List.mem_of_getElem? hx)) (by have := HBG.out; omega) HP.out
      rw [← HL.out] at hf
      obtain ⟨er, her⟩ : ∃ er, er = stepE (l.take i) x := ⟨_, rfl⟩
      rw [← her] at hf
      have HF := Lib.hid hf
      have HER := Lib.hid her
      have HX := Lib.hid hx
      have HD := Lib.hid hd
      have HTK := Lib.hid htk
      clear hf her hx hd htk
      go_wp2_with fail
      refine HF.out.mono ?_
      rintro e w1 ⟨rfl, B1⟩
      have HB1 := Lib.hid (HB.out.trans (B1.mono HB.out.size))
      clear B1 HF HB
      by_cases he : er = 0
      · have HSS := Lib.hid (HER.out.symm.trans he)
        have HV2 := Lib.hid (show vlE [] l = vlE (l.take (i + 1)) (l.drop (i + 1)) by rw [HV.out, HD.out, vlE_ok HSS.out, HTK.out])
        have HP2 := Lib.hid (show vlE [] (l.take (i + 1)) = 0 by rw [HTK.out, vlE_snoc, if_pos HP.out, List.nil_append]; exact HSS.out)
        have hT := trks_snoc (l.take i) x
        rw [← HTK.out, ← HT.out] at hT
        have HT1 := Lib.hid hT
        obtain ⟨ad, rfl, C⟩ := (HH.out.below HB1.out).at_ HX.out
        have c0 := (ESpelt.of C).c0
        generalize x.kind = kd at *
        clear hT C
        subst he
        by_cases h4 : kd = 4
        · have HT2 := Lib.hid (show t + 1 = trks (l.take (i + 1)) by rw [HT1.out, if_pos h4])
          have h4b : (kd == 4) = true := beq_iff_eq.2 h4
          clear h4
          go_wp2_with fail
          go_roundw
          case rel => exact ⟨i + 1, t + 1, by omega, by omega, by go_num, by go_num, HV2, HP2, HT2, HB1⟩
          case measure => simp [intOf]; omega
        · have HT2 := Lib.hid (show t = trks (l.take (i + 1)) by rw [HT1.out, if_neg h4, Nat.add_zero])
          have h4b : (kd == 4) = false := beq_eq_false_iff_ne.2 h4
          clear h4
          go_wp2_with fail
          go_roundw
          case rel => exact ⟨i + 1, t, by omega, by omega, by go_num, rfl, HV2, HP2, HT2, HB1⟩
          case measure => simp [intOf]; omega
      · have HV2 := Lib.hid (validE_bad HBG.out HN0.out HV.out HD.out HER.out.symm he)
        have hne : (er != 0) = true := bne_iff_ne.2 he
        clear he
        go_wp2_with fail
        go_ret
        exact VdPost.mk' HV2.out HB1.out
    · obtain rfl : i = L := by omega
      have HVL := Lib.hid (show vlE [] l = 0 by have := HP.out; rw [HL.out, List.take_length] at this; exact this)
      have HTT := Lib.hid (show t = trks l by have := HT.out; rw [HL.out, List.take_length] at this; exact this)
      have HTR := Lib.hid (validE_tree HBG.out HN0.out HVL.out)
      clear HV HP HT hlt
      generalize wr = wo at *
      go_wp2_with fail
      go_loopw [6] (fun iv wr => Hid (Below w.heap.size w wr) ∧ ∃ j : Nat, j ≤ i ∧ iv = .int .i64 (j : Int) ∧ Hid (fullE l j = true)) (fun iv _ => i - (intOf iv).toNat)
      case atStart => exact ⟨HB, 0, by omega, rfl, Lib.hid rfl⟩
      case round =>
        clear HB
        obtain ⟨HB, j, hj, rfl, HFL⟩ := hrel
        by_cases hlt : j < i
        · have hlt' : (j : Int) < (i : Int) := by omega
          generalize wr = wp at *
          go_wp2_with fail
          go_loopw [7, 8] (fun nv kv wj => Hid (Below w.heap.size w wj) ∧ ∃ k n : Nat, 1 ≤ k ∧ k ≤ i ∧ n ≤ k ∧ kv = .int .i64 (k : Int) ∧ nv = .int .i64 (n : Int) ∧ Hid (n = kids (l.take k) j)) (fun _ kv _ => i - (intOf kv).toNat)
          case atStart =>
            refine ⟨HB, 1, 0, Nat.le_refl _, hL1, by omega, rfl, rfl, Lib.hid ?_⟩
            obtain ⟨z, hz, _, htk⟩ := drop_ex (l := l) (k := 0) (by rw [← HL.out]; omega)
            have hz0 := (vl_at HVL.out hz).2.1.2 rfl
            rw [htk]
            simp [kids, hz0]
          case round =>
            clear HB
            obtain ⟨HB, k, n, hk1, hk, hn, rfl, rfl, HK⟩ := hrel
            by_cases hki : k < i
            · have hki' : (k : Int) < (i : Int) := by omega
              obtain ⟨z, hz, _, htk⟩ := drop_ex (l := l) (k := k) (by rw [← HL.out]; exact hki)
              have hz0 : z.kind ≠ 0 := fun g => by have := (vl_at HVL.out hz).2.1.1 g; omega
              obtain ⟨ad, rfl, C⟩ := (HH.out.below HB.out).at_ hz
              have c2 := (ESpelt.of C).c2
              have hks := kids_snoc (l.take k) z j
              rw [← htk, ← HK.out] at hks
              have HKS := Lib.hid hks
              have HZ0 := Lib.hid hz0
              generalize hzp : z.par = zp at *
              have HZP := Lib.hid hzp
              clear C hz htk hks hz0 hzp
              by_cases hp : zp = (j : Int)
              · have HK2 := Lib.hid (show n + 1 = kids (l.take (k + 1)) j by rw [HKS.out, if_pos ⟨HZ0.out, hp⟩])
                have hpb : (zp == (j : Int)) = true := beq_iff_eq.2 hp
                clear hp
                go_wp2_with fail
                go_roundw
                case rel => exact ⟨HB, k + 1, n + 1, by omega, by omega, by omega, by go_num, by go_num, HK2⟩
                case measure => simp [intOf]; omega
              · have HK2 := Lib.hid (show n = kids (l.take (k + 1)) j by rw [HKS.out, if_neg (fun g => hp g.2), Nat.add_zero])
                have hpb : (zp == (j : Int)) = false := beq_eq_false_iff_ne.2 hp
                clear hp
                go_wp2_with fail
                go_roundw
                case rel => exact ⟨HB, k + 1, n, by omega, by omega, by omega, by go_num, rfl, HK2⟩
                case measure => simp [intOf]; omega
            · obtain rfl : k = i := by omega
              have HKN := Lib.hid (show n = kids l j by have := HK.out; rw [HL.out, List.take_length] at this; exact this)
              obtain ⟨y, hy, _, _⟩ := drop_ex (l := l) (k := j) (by rw [← HL.out]; exact hlt)
              obtain ⟨ad, rfl, C⟩ := (HH.out.below HB.out).at_ hy
              have c0 := (ESpelt.of C).c0
              have HGD := Lib.hid (show (l.getD j zeroE).kind = y.kind by rw [List.getD_eq_getElem?_getD, hy]; rfl)
              have HBAD := Lib.hid (fun (h : (n : Int) < needK y.kind) => (show validE l = 13 from HTR.out.trans (treeE_bad (fullE_not (j := j) (by rw [HGD.out, ← HKN.out]; exact h) l.length (by rw [← HL.out]; exact hlt)))))
              have HGOOD := Lib.hid (fun (h : ¬ (n : Int) < needK y.kind) => (show fullE l (j + 1) = true from by
                show (fullE l j && decide _) = true
                rw [HFL.out, HGD.out, ← HKN.out, decide_eq_true (by omega)]; rfl))
              generalize y.kind = kd at *
              clear C hy hki
              have hneed : (kd = 3 ∧ needK kd = 2) ∨ (kd = 4 ∧ needK kd = 0) ∨ (kd ≠ 3 ∧ kd ≠ 4 ∧ needK kd = 1) := by
                unfold needK
                by_cases g3 : kd = 3
                · exact Or.inl ⟨g3, if_pos g3⟩
                · by_cases g4 : kd = 4
                  · exact Or.inr (Or.inl ⟨g4, by rw [if_neg g3, if_pos g4]⟩)
                  · exact Or.inr (Or.inr ⟨g3, g4, by rw [if_neg g3, if_neg g4]⟩)
              rcases hneed with ⟨h3, h5⟩ | ⟨h4, h5⟩ | ⟨h3, h4, h5⟩
              · rw [h5] at HBAD HGOOD
                have b3 : (kd == 3) = true := beq_iff_eq.2 h3
                have b4 : (kd == 4) = false := beq_eq_false_iff_ne.2 (by omega)
                clear h3 h5
                by_cases hq : (n : Int) < 2
                · have HF := Lib.hid (HBAD.out hq)
                  go_wp2_with fail
                  go_ret
                  exact VdPost.mk' HF.out HB.out
                · have HF := Lib.hid (HGOOD.out hq)
                  go_wp2_with fail
                  go_roundw
                  case rel => exact ⟨HB, j + 1, by omega, by go_num, HF⟩
                  case measure => simp [intOf]; omega
              · rw [h5] at HBAD HGOOD
                have b3 : (kd == 3) = false := beq_eq_false_iff_ne.2 (by omega)
                have b4 : (kd == 4) = true := beq_iff_eq.2 h4
                clear h4 h5
                have hq : ¬ (n : Int) < 0 := by omega
                have HF := Lib.hid (HGOOD.out hq)
                go_wp2_with fail
                go_roundw
                case rel => exact ⟨HB, j + 1, by omega, by go_num, HF⟩
                case measure => simp [intOf]; omega
              · rw [h5] at HBAD HGOOD
                have b3 : (kd == 3) = false := beq_eq_false_iff_ne.2 h3
                have b4 : (kd == 4) = false := beq_eq_false_iff_ne.2 h4
                clear h3 h4 h5
                by_cases hq : (n : Int) < 1
                · have HF := Lib.hid (HBAD.out hq)
                  go_wp2_with fail
                  go_ret
                  exact VdPost.mk' HF.out HB.out
                · have HF := Lib.hid (HGOOD.out hq)
                  go_wp2_with fail
                  go_roundw
                  case rel => exact ⟨HB, j + 1, by omega, by go_num, HF⟩
                  case measure => simp [intOf]; omega
        · obtain rfl : j = i := by omega
          have HFF := Lib.hid (show fullE l l.length = true by rw [← HL.out]; exact HFL.out)
          by_cases h32 : (32 : Int) < (t : Int)
          · have HF := Lib.hid (HTR.out.trans (treeE_lim HFF.out (by rw [← HTT.out]; omega)))
            go_wp2_with fail
            go_ret
            exact VdPost.mk' HF.out HB.out
          · have HF := Lib.hid (HTR.out.trans (treeE_ok HFF.out (by rw [← HTT.out]; omega)))
            go_wp2_with fail
            go_ret
            exact VdPost.mk' HF.out HB.out
end Go.Proofs.YtgohocbkkhnmnaaGreatDoor
