/-
  Stage 9: the walk of LayoutLine.
-/
import Derived.Test.YtakncgfnkflmoaaGreatDoorLLnP
import Derived.Test.YtakncgfnkflmoaaGreatDoorLFmt
import Derived.Test.YtakncgfnkflmoaaGreatDoorLSane
import Derived.Test.YtakncgfnkflmoaaGreatDoorTMkLay
set_option linter.unusedSimpArgs false
set_option linter.unusedVariables false
namespace Go.Proofs.YtakncgfnkflmoaaGreatDoor
open Go.RowKit Go.Lib

theorem ROwn.plainN {w : World} {base : Nat} {v : Value} {l : List El} (h : ROwn ER 41 w base v l) : ∃ A c, v = .slice A l.length c ∧ RRow ER w A l ∧ PlainA A ∧ l.length ≤ c := by
  obtain ⟨A, c, e, R, h1, h2, h3, h4⟩ := h.full
  refine ⟨A, c, e, R, ?_, h1⟩
  intro ad e2
  rcases Nat.eq_zero_or_pos l.length with g | g
  · rcases h.2 with ⟨rfl, _⟩ | ⟨g', cap, cur, rfl, _⟩
    · injection e with e1; rw [e2] at e1; cases e1
    · injection e with e1; rw [e2] at e1; injection e1 with e1; rw [← e1]
  · obtain ⟨b, e3, _⟩ := h3 g
    rw [e2] at e3; injection e3 with e3; rw [e3]
theorem sz_ofN {l : List El} (h : vlE [] l = 0) : SzE l := fun x hx => by
  obtain ⟨k, hk⟩ := List.mem_iff_getElem?.1 hx
  have hst := vlE_zero h hk
  rw [List.nil_append] at hst
  have := nameS_size (soundE_name (stepE_parts hst).1)
  unfold maxLen; omega
theorem pad_cell (w : World) (T : TypeId) {i r : Nat} (h : r = i % 3) : (w.alloc (.cells #[.string ⟨#[10]⟩, .string ⟨#[32, 10]⟩, .string ⟨#[35, 10]⟩] T)).cell? ⟨w.heap.size, r, none⟩ = some (.string (bs (padS i))) := by
  rw [cell_new]
  unfold padS
  rw [← h]
  rcases (by omega : r = 0 ∨ r = 1 ∨ r = 2) with rfl | rfl | rfl <;> rfl
set_option maxRecDepth 100000 in
set_option maxHeartbeats 3200000 in
theorem line_walk (A : Option Addr) (c : Nat) (zs : List Int) (n : Int) (w : World) (D : Dor w) (hr : Row .i64 w w.heap.size A zs) (hm : zs.length ≤ maxLen) (hw : ∀ n ∈ zs, (Lit.int .i64 n).wf = true) :
    Calls Tryz.prog 3 #[.slice A zs.length c, .int .i64 n] w fun e w' => e = .returned (.bool true) ∧ Below w.heap.size w w' := by
  have K := Lib.hid (mk_row (c := c) (T := 51) hr hm hw)
  have B := Lib.hid ((Below.refl w.heap.size w).alloc (Nat.le_refl _) (.cells #[.slice A zs.length c, .int .i64 0] 51))
  obtain ⟨m, hmm⟩ : ∃ m, m = w.heap.size := ⟨_, rfl⟩
  have HMM := Lib.hid hmm
  have DD := Lib.hid D
  have a1 := tmod_bd n 5 (by decide)
  clear hr hw D
  go_enter Tryz.func3, Tryz.ntmps3
  go_wp2_with fail
  refine (new_any A zs.length c w).mono ?_
  rintro e w1 ⟨rfl, hw1⟩
  rw [← hw1] at K B
  rw [← hmm] at K ⊢
  clear hmm hw1 hm
  go_wp2_with fail
  refine (mlayout_any m 0 3 w1 K.out (by omega) (by omega)).mono ?_
  rintro e w2 ⟨v, l, rfl, O, HL, K2, V2⟩
  have hl1 := HL.2.1
  have hl2 := HL.2.2.1
  have HV := Lib.hid (HL.1.valid (by omega) (by omega) (by have := HL.2.2.2; omega))
  have HVL := Lib.hid HL.1.vl
  have HB2 := Lib.hid (V2.below B.out (by rw [HMM.out]; exact Nat.le_refl _) B.out.size)
  obtain ⟨lA, lc, rfl, R, hpl, hlc⟩ := O.plainN
  have HFA := Lib.hid (fmt_any l lA lc w2 R hpl hlc (DD.out.below HB2.out) (sz_ofN HVL.out))
  have HFM := Lib.hid (show fmtE l = (bs (textE l l.length), 0) by unfold fmtE; rw [if_pos HV.out])
  clear O HL K2 V2 K B R hpl hlc HVL
  go_wp2_with fail
  refine HFA.out.mono ?_
  rintro e w3 ⟨rfl, B3⟩
  rw [HFM.out]
  have HB3 := Lib.hid (HB2.out.trans (B3.mono HB2.out.size))
  have hsz : (bs (textE l l.length)).size ≤ 2816 := by
    show (textE l l.length).length ≤ _
    have := text_size HV.out l.length (Nat.le_refl _)
    omega
  have HPL := Lib.hid (fun (q : Nat) (h : q ≤ 4) => parse_line HV.out (show l.length ≤ 64 by omega) h)
  have HNL := Lib.hid (text_nl HV.out l.length (Nat.le_refl _))
  obtain ⟨L, hL⟩ : ∃ L, L = l.length := ⟨_, rfl⟩
  have HLL := Lib.hid hL
  have hL22 : L ≤ 22 := by omega
  rw [← hL] at HNL HPL
  have HTX := Lib.hid (fun q => show bs (lineText q l) = (bs (padE q) ++ bs (textE l l.length)) ++ ⟨#[114, 97, 105, 108, 32, 120, 32, 121, 32, 49, 32, 50, 32, 51, 10]⟩ from ba_ext (by
    rw [ByteArray.data_append, Array.toList_append, ByteArray.data_append, Array.toList_append]
    unfold lineText
    simp [bs, railS]))
  rw [← hL] at hsz HTX ⊢
  have HTE := Lib.hid (show (bs (textE l L)).data.toList = textE l L from by simp [bs])
  clear B3 HFA HFM hl1 hl2 hL
  obtain ⟨s, hs⟩ : ∃ s, s = bs (textE l L) := ⟨_, rfl⟩
  rw [← hs] at hsz HTX HTE ⊢
  have HS := Lib.hid hs
  clear hs
  go_upto_region 5 with fail
  obtain ⟨N, hN⟩ := Int.eq_ofNat_of_zero_le (show 0 ≤ (n.tmod 5 + 5) % 5 by omega)
  have hN4 : N ≤ 4 := by omega
  rw [hN]
  generalize n.tmod 5 + 5 = d1
  generalize n.tmod 5 = d2
  clear a1 hN
  go_wp2_with fail
  go_loopw [7, 8] (fun pv iv wr => ∃ i : Nat, i ≤ N ∧ iv = .int .i64 (i : Int) ∧ pv = .string (bs (padE i)) ∧ Hid (Below w.heap.size w wr)) (fun _ iv _ => N - (intOf iv).toNat)
  case atStart => exact ⟨0, by omega, rfl, rfl, HB3⟩
  case round =>
    clear HB3 HB2
    obtain ⟨i, hi, rfl, rfl, B⟩ := hrel
    by_cases hlt : i < N
    · have hlt' : (i : Int) < (N : Int) := by omega
      obtain ⟨r, hr⟩ : ∃ r, r = i % 3 := ⟨_, rfl⟩
      have hri : (i : Int) % 3 = (r : Int) := by omega
      have hr3 : (r : Int) < 3 := by omega
      have hpc : ∀ (X : World) (T : TypeId), (X.alloc (.cells #[.string ⟨#[10]⟩, .string ⟨#[32, 10]⟩, .string ⟨#[35, 10]⟩] T)).cell? ⟨X.heap.size, r, none⟩ = some (.string (bs (padS i))) := fun X T => pad_cell X T hr
      have hp1 := padE_len i
      have hp2 : (bs (padS i)).size ≤ 2 := by
        unfold padS
        rcases (by omega : i % 3 = 0 ∨ i % 3 = 1 ∨ i % 3 = 2) with e | e | e <;> rw [e] <;> decide
      have HPS := Lib.hid (show bs (padE (i + 1)) = bs (padE i) ++ bs (padS i) from ba_ext (by rw [ByteArray.data_append, Array.toList_append]; simp [bs, padE]))
      have hp3 : (bs (padE i)).size ≤ 2 * i := hp1
      clear hr hp1
      obtain ⟨pi, hpi⟩ : ∃ p, p = bs (padE i) := ⟨_, rfl⟩
      obtain ⟨ps, hps⟩ : ∃ p, p = bs (padS i) := ⟨_, rfl⟩
      rw [← hpi] at HPS hp3 ⊢
      rw [← hps] at HPS hp2 hpc
      clear hpi hps
      have hcc : ¬ 9223372036854775807 < pi.size + ps.size := by omega
      have HBA := Lib.hid (B.out.alloc B.out.size (.cells #[.string ⟨#[10]⟩, .string ⟨#[32, 10]⟩, .string ⟨#[35, 10]⟩] 9))
      go_wp2_with fail
      go_roundw
      case rel => exact ⟨i + 1, by omega, by go_num, by rw [HPS.out], HBA⟩
      case measure => simp [intOf] <;> omega
    · obtain rfl : i = N := by omega
      have hp3 : (bs (padE i)).size ≤ 2 * i := padE_len i
      clear hlt
      obtain ⟨S, hS⟩ : ∃ S, S = s.size := ⟨_, rfl⟩
      have HSS := Lib.hid hS
      go_wp2_with fail
      go_loopw [9, 10] (fun nv jv wq => ∃ j : Nat, j ≤ s.size ∧ jv = .int .i64 (j : Int) ∧ nv = .int .i64 (nl10 (s.data.toList.take j) : Nat) ∧ Hid (Below w.heap.size w wq)) (fun _ jv _ => s.size - (intOf jv).toNat)
      case atStart => exact ⟨0, by omega, rfl, rfl, B⟩
      case round =>
        clear B
        obtain ⟨j, hj, rfl, rfl, B⟩ := hrel
        have hcb := nl10_take_le s.data.toList j
        have hcl : s.data.toList.length = s.size := by simp
        by_cases hlt : j < s.size
        · have hlt' : (j : Int) < (s.size : Int) := by omega
          have hst := nl10_take s.data.toList (i := j) (by rw [hcl]; exact hlt)
          have hsj : s.data.toList[j]'(by rw [hcl]; exact hlt) = s[j] := by rw [Array.getElem_toList]; rfl
          rw [hsj] at hst
          by_cases h10 : s[j] = 10
          · have hb : ((s[j].toNat : Int) == 10) = true := by rw [beq_iff_eq, h10]; rfl
            have HN := Lib.hid (show nl10 (s.data.toList.take (j + 1)) = nl10 (s.data.toList.take j) + 1 by rw [hst, if_pos h10])
            clear hst hsj h10
            generalize nl10 (s.data.toList.take j) = q at *
            go_wp2_with fail
            go_roundw
            case rel => exact ⟨j + 1, by omega, by go_num, by rw [HN.out]; go_num, B⟩
            case measure => simp [intOf] <;> omega
          · have hb : ((s[j].toNat : Int) == 10) = false := by
              rw [beq_eq_false_iff_ne]
              intro g
              exact h10 (UInt8.toNat_inj.1 (by have : s[j].toNat = 10 := by omega
                                               rw [this]; rfl))
            have HN := Lib.hid (show nl10 (s.data.toList.take (j + 1)) = nl10 (s.data.toList.take j) by rw [hst, if_neg h10]; omega)
            clear hst hsj h10
            generalize nl10 (s.data.toList.take j) = q at *
            go_wp2_with fail
            go_roundw
            case rel => exact ⟨j + 1, by omega, by go_num, by rw [HN.out], B⟩
            case measure => simp [intOf] <;> omega
        · obtain rfl : j = s.size := by omega
          have HQ := Lib.hid (show nl10 (s.data.toList.take s.size) = L by rw [← hcl, List.take_length, HTE.out]; exact HNL.out)
          rw [HQ.out]
          clear hcb hcl
          have HPA := Lib.hid (parse_any (bs (lineText i l)) wr (by rw [HTX.out i]; simp only [ByteArray.size_append]; show _ + _ + 15 ≤ _; omega) (DD.out.below B.out))
          have HPR := Lib.hid (HPL.out i hN4)
          rw [HTX.out i] at HPA HPR
          have c1 : ¬ 9223372036854775807 < (bs (padE i)).size + s.size := by omega
          have c2 : ¬ 9223372036854775807 < (bs (padE i)).size + s.size + 15 := by omega
          clear HTX
          generalize bs (padE i) = pe at *
          go_wp2_with fail
          refine HPA.out.mono ?_
          rintro e w5 ⟨v, rfl, O5, B5⟩
          rw [HPR.out]
          have HB5 := Lib.hid (B.out.trans (B5.mono B.out.size))
          have HSN := Lib.hid (sane_any w5 (DD.out.below HB5.out))
          clear O5 B5 HPA HPR c1 c2
          go_wp2_with fail
          refine HSN.out.mono ?_
          rintro e w6 ⟨rfl, B6⟩
          go_wp2_with fail
          go_ret
          exact ⟨rfl, HB5.out.trans (B6.mono HB5.out.size)⟩
end Go.Proofs.YtakncgfnkflmoaaGreatDoor
