/-
  Stage 5: the reference: Valid, effect, check, Count, State.
-/
import Derived.Test.YtbnlaopmmgoalaaSCount
set_option linter.unusedSimpArgs false
set_option linter.unusedVariables false
namespace Go.Proofs.Ytbnlaopmmgoalaa
open Go.RowKit

theorem sen_take (l : List Pul) (k : Nat) (hk : k < l.length) (s d : Int) (h : sen (l.take k) s d = none) : sen (l.take (k + 1)) s d = if (l.getD k (0, 0, 0)).1 = s ∧ (l.getD k (0, 0, 0)).2.1 = d then some (l.getD k (0, 0, 0)).2.2 else none := by
  rw [take_at rfl hk, sen_snoc, h]
theorem sen_some_app {p q : List Pul} {s d z : Int} (h : sen p s d = some z) : sen (p ++ q) s d = some z := by
  induction p with
  | nil => cases h
  | cons a p ih =>
    have h' : (if a.1 = s ∧ a.2.1 = d then some a.2.2 else sen p s d) = some z := h
    show (if a.1 = s ∧ a.2.1 = d then some a.2.2 else sen (p ++ q) s d) = some z
    by_cases g : a.1 = s ∧ a.2.1 = d
    · rw [if_pos g] at h' ⊢; exact h'
    · rw [if_neg g] at h' ⊢; exact ih h'
theorem sen_some_take {l : List Pul} {k : Nat} {s d z : Int} (h : sen (l.take k) s d = some z) : sen l s d = some z := by
  rw [← List.take_append_drop k l]; exact sen_some_app h

set_option maxHeartbeats 1600000 in
theorem effect_any (l : List Pul) (A : Option Addr) (c : Nat) (d t z s : Int) (w : World) (h : PRow w A l) (hb : Bor l) (hx : okP (d, t, z)) :
    Calls Try.prog 35 #[.slice A l.length c, .agg #[.int .i64 d, .int .i64 t, .int .i64 z], .int .i64 s] w fun e w' => e = .returned (.int .i64 (eff l s (d, t, z))) ∧ Below w.heap.size w w' := by
  have hl : l.length ≤ 9223372036854775807 := h.len
  have H := Lib.hid h
  have HB := Lib.hid hb
  have hz : z = 1 ∨ z = -1 := hx.2.2
  have HZ := Lib.hid hz
  obtain ⟨L, hL⟩ : ∃ n, n = l.length := ⟨_, rfl⟩
  have HL := Lib.hid hL
  rw [← hL] at hl ⊢
  clear h hL hb hx hz
  go_enter Try.func35, Try.ntmps35
  go_wp2_with fail
  go_loopw [7] (fun i wr => ∃ k : Nat, k ≤ L ∧ i = .int .i64 k ∧ Hid (sen (l.take k) s d = none) ∧ Hid (Pl wr w.heap.size (d, t, z)) ∧ Hid (Below w.heap.size w wr)) (fun i _ => L - (intOf i).toNat)
  case atStart => exact ⟨0, by omega, rfl, Lib.hid rfl, Lib.hid (Pl.new (w := w) (p := (d, t, z)) w.heap.size rfl), Lib.hid ((Below.refl _ _).alloc (Nat.le_refl _) _)⟩
  case round =>
    obtain ⟨k, hk, rfl, V, P, B⟩ := hrel
    by_cases hlt : k < L
    · obtain ⟨ad, rfl, C⟩ := (H.out.below B.out).at_ k (by rw [← HL.out]; exact hlt)
      have hst := sen_take l k (by rw [← HL.out]; exact hlt) s d V.out
      obtain ⟨⟨s', d', z'⟩, hp⟩ : ∃ p, p = l.getD k (0, 0, 0) := ⟨_, rfl⟩
      rw [← hp] at C hst
      obtain ⟨c0, c1, c2⟩ := C.spelt
      obtain ⟨p0, p1, p2, plt⟩ := P.out
      simp only at c0 c1 c2 p0 p1 p2 hst
      have HST := Lib.hid hst
      clear hp C hst
      by_cases g1 : s' = s
      · subst g1
        by_cases g2 : d' = d
        · subst g2
          have hs : sen l s' d' = some z' := sen_some_take (by rw [HST.out, if_pos ⟨rfl, rfl⟩])
          have hz' := HB.out.sense hs
          have hz := HZ.out
          have HE := Lib.hid (show eff l s' (d', t, z) = z * z' by unfold eff; simp only [hs])
          obtain ⟨x, hxx⟩ : ∃ x, x = z * z' := ⟨_, rfl⟩
          have hx1 : -1 ≤ x ∧ x ≤ 1 := by
            rw [hxx]
            rcases hz with rfl | rfl <;> rcases hz' with rfl | rfl <;> decide
          have hxw : wrap64 (z * z') = x := by rw [← hxx]; exact IntWalk.wrap64_in _ (by omega)
          have HX := Lib.hid (HE.out.trans hxx.symm)
          clear hs hz' hz hxx HE
          go_wp2_with fail
          go_quiet (fail)
          go_wp2_with fail
          go_quiet (fail)
          go_wp2_with fail
          go_ret
          exact ⟨ret_int (hxw.trans HX.out.symm), bdn (bdn B.out)⟩
        · have g2' : (d' == d) = false := beq_eq_false_iff_ne.2 g2
          have HN := Lib.hid (show sen (l.take (k + 1)) s' d = none by rw [HST.out, if_neg (fun e => g2 e.2)])
          clear g2
          go_wp2_with fail
          go_quiet (fail)
          go_wp2_with fail
          go_roundw
          case rel => exact ⟨k + 1, by omega, by go_num, HN, Lib.hid (P.out.drewN _), Lib.hid (bdn B.out)⟩
          case measure => simp [intOf]; omega
      · have g1' : (s' == s) = false := beq_eq_false_iff_ne.2 g1
        have HN := Lib.hid (show sen (l.take (k + 1)) s d = none by rw [HST.out, if_neg (fun e => g1 e.1)])
        clear g1
        go_wp2_with fail
        go_quiet (fail)
        go_wp2_with fail
        go_roundw
        case rel => exact ⟨k + 1, by omega, by go_num, HN, Lib.hid (P.out.drewN _), Lib.hid (bdn B.out)⟩
        case measure => simp [intOf]; omega
    · obtain rfl : k = L := by omega
      have hv := V.out
      rw [HL.out, List.take_length] at hv
      have HE := Lib.hid (show eff l s (d, t, z) = 0 by unfold eff; simp only [hv])
      clear hv hlt hk
      go_wp2_with fail
      go_ret
      exact ⟨ret_int HE.out.symm, B.out⟩

set_option maxHeartbeats 1600000 in
theorem rbvalid_any (l : List Pul) (A : Option Addr) (c : Nat) (w : World) (h : PRow w A l) :
    Calls Try.prog 12 #[.slice A l.length c] w fun e w' => e = .returned (.int .i64 (bordR l)) ∧ Below w.heap.size w w' := by
  have hl : l.length ≤ 9223372036854775807 := h.len
  by_cases hbig : 64 < l.length
  · have HP := Lib.hid (show bordR l = 3 by unfold bordR; rw [if_pos hbig])
    have hb : (64 : Int) < (l.length : Int) := by omega
    clear h
    go_enter Try.func12, Try.ntmps12
    go_wp2_with fail
    go_ret
    exact ⟨ret_int HP.out.symm, Below.refl _ _⟩
  · have H := Lib.hid h
    have HP := Lib.hid (show bordR l = bw [] l by unfold bordR; rw [if_neg hbig])
    obtain ⟨L, hL⟩ : ∃ n, n = l.length := ⟨_, rfl⟩
    have HL := Lib.hid hL
    rw [← hL] at hl hbig ⊢
    clear h hL
    go_enter Try.func12, Try.ntmps12
    go_wp2_with fail
    go_loopw [3] (fun i wr => ∃ k : Nat, k ≤ L ∧ i = .int .i64 k ∧ Hid (bw [] l = bw (l.take k) (l.drop k)) ∧ Hid (Below w.heap.size w wr)) (fun i _ => L - (intOf i).toNat)
    case atStart => exact ⟨0, by omega, rfl, Lib.hid rfl, Lib.hid (Below.refl _ _)⟩
    case round =>
      obtain ⟨k, hk, rfl, V, B⟩ := hrel
      by_cases hlt : k < L
      · obtain ⟨ad, rfl, C⟩ := (H.out.below B.out).at_ k (by rw [← HL.out]; exact hlt)
        have hd := drop_at (l := l) (k := k) (by rw [← HL.out]; exact hlt)
        obtain ⟨⟨s, d, z⟩, hp⟩ : ∃ p, p = l.getD k (0, 0, 0) := ⟨_, rfl⟩
        have ht := take_at hp (by rw [← HL.out]; exact hlt)
        rw [← hp] at C hd
        have hv := V.out
        rw [hd] at hv
        have HV := Lib.hid hv
        have HT := Lib.hid ht
        obtain ⟨c0, c1, c2⟩ := C.spelt
        have PN := Lib.hid (Pl.new (w := wr) (p := (s, d, z)) (T := 24) wr.heap.size rfl)
        have BN := Lib.hid (B.out.alloc B.out.size (.cells #[.int .i64 s, .int .i64 d, .int .i64 z] 24))
        clear hp hd hv V C ht
        simp only at c0 c1 c2
        by_cases ho : okB (s, d, z)
        · have h1 : 0 ≤ s := ho.1.1
          have h2 : s ≤ 31 := ho.1.2
          have h3 : 0 ≤ d := ho.2.1.1
          have h4 : d ≤ 31 := ho.2.1.2
          have h5 : z = 1 ∨ z = -1 := ho.2.2
          have HO := Lib.hid ho
          clear ho
          rcases h5 with rfl | rfl
          · go_upto_region 9 with fail
            obtain ⟨wb, hwb⟩ : ∃ wb, wb = wr.alloc (.cells #[.int .i64 s, .int .i64 d, .int .i64 1] 24) := ⟨_, rfl⟩
            rw [← hwb] at PN BN ⊢
            clear hwb c0 c1 c2 h1 h2 h3 h4 B
            obtain ⟨wB, hwB⟩ : ∃ n, n = wr.heap.size := ⟨_, rfl⟩
            rw [← hwB] at PN ⊢
            clear hwB
            go_wp2_with fail
            go_loopw [5] (fun i wx => ∃ j : Nat, j ≤ k ∧ i = .int .i64 j ∧ Hid (sen (l.take j) s d = none) ∧ Hid (Pl wx wB (s, d, 1)) ∧ Hid (Below w.heap.size w wx)) (fun i _ => k - (intOf i).toNat)
            case atStart => exact ⟨0, by omega, rfl, Lib.hid rfl, PN, BN⟩
            case round =>
              clear PN BN
              obtain ⟨j, hj, rfl, VJ, PJ, BJ⟩ := hrel
              by_cases hjk : j < k
              · obtain ⟨ad', e', C⟩ := (H.out.below BJ.out).at_ j (by rw [← HL.out]; omega)
                obtain rfl : ad = ad' := by injection e'
                have hst := sen_take l j (by rw [← HL.out]; omega) s d VJ.out
                obtain ⟨⟨s', d', z'⟩, hp⟩ : ∃ p, p = l.getD j (0, 0, 0) := ⟨_, rfl⟩
                rw [← hp] at C hst
                obtain ⟨c0, c1, c2⟩ := C.spelt
                obtain ⟨p0, p1, p2, plt⟩ := PJ.out
                simp only at c0 c1 c2 p0 p1 p2 hst
                have HST := Lib.hid hst
                clear hp C hst e'
                by_cases g1 : s' = s
                · subst g1
                  by_cases g2 : d' = d
                  · subst g2
                    have hs : sen (l.take (j + 1)) s' d' = some z' := by rw [HST.out, if_pos ⟨rfl, rfl⟩]
                    have hs2 : sen (l.take k) s' d' = some z' := by
                      have := sen_some_take (l := l.take k) (k := j + 1) (by rw [List.take_take, Nat.min_eq_left (by omega)]; exact hs)
                      exact this
                    have HV2 := Lib.hid (HV.out.trans (bw_dup HO.out hs2))
                    clear hs hs2
                    go_wp2_with fail
                    go_quiet (fail)
                    go_wp2_with fail
                    go_ret
                    exact ⟨ret_int (HP.out.trans HV2.out).symm, bdn BJ.out⟩
                  · have g2' : (d' == d) = false := beq_eq_false_iff_ne.2 g2
                    have HN := Lib.hid (show sen (l.take (j + 1)) s' d = none by rw [HST.out, if_neg (fun e => g2 e.2)])
                    clear g2
                    go_wp2_with fail
                    go_quiet (fail)
                    go_wp2_with fail
                    go_roundw
                    case rel => exact ⟨j + 1, by omega, by go_num, HN, Lib.hid (PJ.out.drewN _), Lib.hid (bdn BJ.out)⟩
                    case measure => simp [intOf]; omega
                · have g1' : (s' == s) = false := beq_eq_false_iff_ne.2 g1
                  have HN := Lib.hid (show sen (l.take (j + 1)) s d = none by rw [HST.out, if_neg (fun e => g1 e.1)])
                  clear g1
                  go_wp2_with fail
                  go_quiet (fail)
                  go_wp2_with fail
                  go_roundw
                  case rel => exact ⟨j + 1, by omega, by go_num, HN, Lib.hid (PJ.out.drewN _), Lib.hid (bdn BJ.out)⟩
                  case measure => simp [intOf]; omega
              · obtain rfl : j = k := by omega
                have HV2 := Lib.hid (HV.out.trans (bw_ok HO.out VJ.out))
                clear hjk hj
                go_wp2_with fail
                go_roundw
                case rel => exact ⟨j + 1, by omega, by go_num, Lib.hid (by rw [HT.out]; exact HV2.out), BJ⟩
                case measure => simp [intOf]; omega
          · go_upto_region 9 with fail
            obtain ⟨wb, hwb⟩ : ∃ wb, wb = wr.alloc (.cells #[.int .i64 s, .int .i64 d, .int .i64 (-1)] 24) := ⟨_, rfl⟩
            rw [← hwb] at PN BN ⊢
            clear hwb c0 c1 c2 h1 h2 h3 h4 B
            obtain ⟨wB, hwB⟩ : ∃ n, n = wr.heap.size := ⟨_, rfl⟩
            rw [← hwB] at PN ⊢
            clear hwB
            go_wp2_with fail
            go_loopw [5] (fun i wx => ∃ j : Nat, j ≤ k ∧ i = .int .i64 j ∧ Hid (sen (l.take j) s d = none) ∧ Hid (Pl wx wB (s, d, (-1))) ∧ Hid (Below w.heap.size w wx)) (fun i _ => k - (intOf i).toNat)
            case atStart => exact ⟨0, by omega, rfl, Lib.hid rfl, PN, BN⟩
            case round =>
              clear PN BN
              obtain ⟨j, hj, rfl, VJ, PJ, BJ⟩ := hrel
              by_cases hjk : j < k
              · obtain ⟨ad', e', C⟩ := (H.out.below BJ.out).at_ j (by rw [← HL.out]; omega)
                obtain rfl : ad = ad' := by injection e'
                have hst := sen_take l j (by rw [← HL.out]; omega) s d VJ.out
                obtain ⟨⟨s', d', z'⟩, hp⟩ : ∃ p, p = l.getD j (0, 0, 0) := ⟨_, rfl⟩
                rw [← hp] at C hst
                obtain ⟨c0, c1, c2⟩ := C.spelt
                obtain ⟨p0, p1, p2, plt⟩ := PJ.out
                simp only at c0 c1 c2 p0 p1 p2 hst
                have HST := Lib.hid hst
                clear hp C hst e'
                by_cases g1 : s' = s
                · subst g1
                  by_cases g2 : d' = d
                  · subst g2
                    have hs : sen (l.take (j + 1)) s' d' = some z' := by rw [HST.out, if_pos ⟨rfl, rfl⟩]
                    have hs2 : sen (l.take k) s' d' = some z' := by
                      have := sen_some_take (l := l.take k) (k := j + 1) (by rw [List.take_take, Nat.min_eq_left (by omega)]; exact hs)
                      exact this
                    have HV2 := Lib.hid (HV.out.trans (bw_dup HO.out hs2))
                    clear hs hs2
                    go_wp2_with fail
                    go_quiet (fail)
                    go_wp2_with fail
                    go_ret
                    exact ⟨ret_int (HP.out.trans HV2.out).symm, bdn BJ.out⟩
                  · have g2' : (d' == d) = false := beq_eq_false_iff_ne.2 g2
                    have HN := Lib.hid (show sen (l.take (j + 1)) s' d = none by rw [HST.out, if_neg (fun e => g2 e.2)])
                    clear g2
                    go_wp2_with fail
                    go_quiet (fail)
                    go_wp2_with fail
                    go_roundw
                    case rel => exact ⟨j + 1, by omega, by go_num, HN, Lib.hid (PJ.out.drewN _), Lib.hid (bdn BJ.out)⟩
                    case measure => simp [intOf]; omega
                · have g1' : (s' == s) = false := beq_eq_false_iff_ne.2 g1
                  have HN := Lib.hid (show sen (l.take (j + 1)) s d = none by rw [HST.out, if_neg (fun e => g1 e.1)])
                  clear g1
                  go_wp2_with fail
                  go_quiet (fail)
                  go_wp2_with fail
                  go_roundw
                  case rel => exact ⟨j + 1, by omega, by go_num, HN, Lib.hid (PJ.out.drewN _), Lib.hid (bdn BJ.out)⟩
                  case measure => simp [intOf]; omega
              · obtain rfl : j = k := by omega
                have HV2 := Lib.hid (HV.out.trans (bw_ok HO.out VJ.out))
                clear hjk hj
                go_wp2_with fail
                go_roundw
                case rel => exact ⟨j + 1, by omega, by go_num, Lib.hid (by rw [HT.out]; exact HV2.out), BJ⟩
                case measure => simp [intOf]; omega
        · have HV2 := Lib.hid (HV.out.trans (bw_bad ho))
          have ho' : ¬ ((0 ≤ s ∧ s ≤ 31) ∧ (0 ≤ d ∧ d ≤ 31) ∧ (z = 1 ∨ z = -1)) := ho
          clear ho
          by_cases h1 : 0 ≤ s
          · by_cases h2 : s ≤ 31
            · by_cases h3 : 0 ≤ d
              · by_cases h4 : d ≤ 31
                · have h5p : ¬ z = 1 := by omega
                  have h6p : ¬ z = -1 := by omega
                  have h5 : (z != 1) = true := by simp [h5p]
                  have h6 : (z != -1) = true := by simp [h6p]
                  clear ho' h5p h6p
                  go_wp2_with fail
                  go_ret
                  exact ⟨ret_int (HP.out.trans HV2.out).symm, BN.out⟩
                · clear ho'
                  go_wp2_with fail
                  go_ret
                  exact ⟨ret_int (HP.out.trans HV2.out).symm, BN.out⟩
              · clear ho'
                go_wp2_with fail
                go_ret
                exact ⟨ret_int (HP.out.trans HV2.out).symm, BN.out⟩
            · clear ho'
              go_wp2_with fail
              go_ret
              exact ⟨ret_int (HP.out.trans HV2.out).symm, BN.out⟩
          · clear ho'
            go_wp2_with fail
            go_ret
            exact ⟨ret_int (HP.out.trans HV2.out).symm, BN.out⟩
      · obtain rfl : k = L := by omega
        have hv := V.out
        rw [HL.out, List.drop_length] at hv
        have HV := Lib.hid hv
        clear hv hlt hk
        go_wp2_with fail
        go_ret
        exact ⟨ret_int (HP.out.trans HV.out).symm, B.out⟩
end Go.Proofs.Ytbnlaopmmgoalaa
