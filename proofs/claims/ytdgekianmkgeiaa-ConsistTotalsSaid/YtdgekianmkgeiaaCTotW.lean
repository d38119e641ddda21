/-
  Stage 6: the walk of ConsistTotals.
-/
import Derived.Test.YtdgekianmkgeiaaCLimW
import Derived.Test.YtdgekianmkgeiaaCTot
set_option linter.unusedSimpArgs false
set_option linter.unusedVariables false
namespace Go.Proofs.Ytdgekianmkgeiaa
open Go.RowKit

theorem validL_sub {l m : List Wag} (h : validL l = 0) (hs : m.Sublist l) : validL m = 0 := by
  obtain ⟨h1, h2, h3⟩ := validL_zero.1 h
  exact validL_zero.2 ⟨Nat.le_trans hs.length_le h1, fun x hx => h2 x (hs.subset hx), (hs.map Wag.num).nodup h3⟩
theorem validL_rot {l : List Wag} (h : validL l = 0) (k : Nat) : validL (l.drop k ++ l.take k) = 0 := by
  obtain ⟨h1, h2, h3⟩ := validL_zero.1 h
  have hp : (l.drop k ++ l.take k).Perm l := by
    have := List.perm_append_comm (l₁ := l.drop k) (l₂ := l.take k)
    rwa [List.take_append_drop] at this
  exact validL_zero.2 ⟨by rw [hp.length_eq]; exact h1, fun x hx => h2 x (hp.subset hx), (hp.map Wag.num).nodup_iff.2 h3⟩
theorem tot_ok {l : List Wag} (h : validL l = 0) : totR l = (sumF Wag.len l, sumF Wag.mas l, sumF Wag.axl l, 0) := by unfold totR; rw [if_pos h]
theorem sumF_cut (f : Wag → Int) (l : List Wag) (k : Nat) : sumF f l = sumF f (l.take k) + sumF f (l.drop k) := by
  rw [← sumF_app, List.take_append_drop]
theorem tot_at {l : List Wag} {a b c : Int} (h : totR l = (a, b, c, 0)) (A : Option Addr) (n cap : Nat) (hn : l.length = n) (w : World) (R : RRow WR w A l) :
    Calls Try.prog 24 #[.slice A n cap] w fun e w' => e = .returned (.tuple #[.int .i64 a, .int .i64 b, .int .i64 c, .int .i64 0]) ∧ Below w.heap.size w w' := by
  subst hn
  refine (ptot_any l A cap w R).mono ?_
  rintro e w' ⟨rfl, B⟩
  rw [h]
  exact ⟨rfl, B⟩
theorem sums_bd {l : List Wag} (h : validL l = 0) : (0 ≤ sumF Wag.len l ∧ sumF Wag.len l ≤ 200000) ∧ (0 ≤ sumF Wag.mas l ∧ sumF Wag.mas l ≤ 200000) ∧ (0 ≤ sumF Wag.axl l ∧ sumF Wag.axl l ≤ 200000) := by
  obtain ⟨h1, h2, _⟩ := validL_zero.1 h
  have b1 := sumF_bd (f := Wag.len) (l := l) fun x hx => (wag_bd (h2 x hx)).1
  have b2 := sumF_bd (f := Wag.mas) (l := l) fun x hx => (wag_bd (h2 x hx)).2.1
  have b3 := sumF_bd (f := Wag.axl) (l := l) fun x hx => (wag_bd (h2 x hx)).2.2
  omega
/-- A list's length, behind a name. -/
def LenIs (l : List Wag) (n : Nat) : Prop := l.length = n
theorem ROwn.addr {α : Type} {R : Rec α} {T : TypeId} {w : World} {base n c : Nat} {A : Option Addr} {l : List α} (h : ROwn R T w base (.slice A n c) l) : A = none ∨ ∃ g, A = some ⟨g, 0, none⟩ := by
  rcases h.2 with ⟨e, _⟩ | ⟨g, cap, cur, e, _⟩
  · injection e with e; exact Or.inl e
  · injection e with e; exact Or.inr ⟨g, e⟩
set_option maxHeartbeats 3200000 in
theorem tot_walk (t : Option Addr) (len cap : Nat) (zs : List Int) (at_ : Int) (w : World) (h : IsRow .i64 w t len cap zs) (a1 : -9223372036854775808 ≤ at_) (a2 : at_ ≤ 9223372036854775807) :
    Calls Try.prog 7 #[.slice t len cap, .int .i64 at_] w fun e w' => e = .returned (.bool true) ∧ Below w.heap.size w w' := by
  obtain ⟨i0, hi, hz0, hz1, hz2⟩ := info_parts infoWag
  have K0 := Lib.hid (mk_new (T := 53) h)
  clear h
  go_enter Try.func7, Try.ntmps7
  go_wp2_with fail
  refine (new_any t len cap w).mono ?_
  rintro e w1 ⟨rfl, e1⟩
  have HB1 := Lib.hid (show Below w.heap.size w w1 by rw [e1]; exact (Below.refl _ _).alloc (Nat.le_refl _) _)
  have K1 := Lib.hid (show IsMk w1 w.heap.size 0 by rw [e1]; exact K0.out)
  clear e1 K0
  go_wp2_with fail
  refine (mwagons_any w.heap.size 0 12 w1 K1.out (by decide) (by decide)).mono ?_
  rintro e w2 ⟨v2, l, rfl, O2, hl12, hmade, K2, M2⟩
  have HB2 := Lib.hid (M2.below HB1.out (Nat.le_refl _) HB1.out.size)
  have HV := Lib.hid (hmade.valid (by omega))
  obtain ⟨A, c, rfl, R, hc1, hc2, hg, hn⟩ := O2.full
  have HAD := Lib.hid O2.addr
  have HR := Lib.hid R
  obtain ⟨n, hnl⟩ : ∃ n, n = l.length := ⟨_, rfl⟩
  have HNL := Lib.hid hnl
  rw [← hnl] at hc1 hl12 hg hn ⊢
  have hcc : (c : Int) ≤ 9223372036854775807 := by unfold maxLen at hc2; omega
  obtain ⟨m1, m2⟩ := tmod_in at_ ((n : Int) + 1) (by omega)
  have q1 : ((n : Int) + 1 == 0) = false := beq_eq_false_iff_ne.2 (by omega)
  have HG := Lib.hid hg
  have HN := Lib.hid hn
  clear K2 M2 O2 R hmade K1 HB1 hnl hc2 hg hn
  go_upto_region 4 with fail
  obtain ⟨k, hk⟩ : ∃ k : Nat, (at_.tmod ((n : Int) + 1) + (n : Int) + 1) % ((n : Int) + 1) = k := ⟨((at_.tmod ((n : Int) + 1) + (n : Int) + 1) % ((n : Int) + 1)).toNat, by have := Int.emod_nonneg (at_.tmod ((n : Int) + 1) + (n : Int) + 1) (show (n : Int) + 1 ≠ 0 by omega); omega⟩
  have hk1 : (k : Int) < (n : Int) + 1 := by rw [← hk]; exact Int.emod_lt_of_pos _ (by omega)
  rw [hk]
  have hkn : k ≤ n := by omega
  have hkc : (k : Int) ≤ (c : Int) := by omega
  have hkn2 : (k : Int) ≤ (n : Int) := by omega
  have hnc : (n : Int) ≤ (c : Int) := by omega
  have HVT := Lib.hid (validL_sub HV.out (List.take_sublist k l))
  have HVD := Lib.hid (validL_sub HV.out (List.drop_sublist k l))
  have HVR := Lib.hid (validL_rot HV.out k)
  have HT1 := Lib.hid (tot_ok HV.out)
  have HT2 := Lib.hid (tot_ok HVT.out)
  have HT3 := Lib.hid (tot_ok HVD.out)
  have HT4 := Lib.hid (tot_ok HVR.out)
  obtain ⟨⟨t1, t2⟩, ⟨t3, t4⟩, ⟨t5, t6⟩⟩ := sums_bd HVT.out
  obtain ⟨⟨d1, d2⟩, ⟨d3, d4⟩, ⟨d5, d6⟩⟩ := sums_bd HVD.out
  have hr := HT4.out
  rw [sumF_app, sumF_app, sumF_app, Int.add_comm (sumF Wag.len (l.drop k)), Int.add_comm (sumF Wag.mas (l.drop k)), Int.add_comm (sumF Wag.axl (l.drop k))] at hr
  have h1 := HT1.out
  rw [sumF_cut Wag.len l k, sumF_cut Wag.mas l k, sumF_cut Wag.axl l k] at h1
  have HT1 := Lib.hid h1
  have HT4 := Lib.hid hr
  clear h1 hr hk m1 m2 q1
  generalize sumF Wag.len (l.take k) = x1 at *
  generalize sumF Wag.mas (l.take k) = x2 at *
  generalize sumF Wag.axl (l.take k) = x3 at *
  generalize sumF Wag.len (l.drop k) = z1 at *
  generalize sumF Wag.mas (l.drop k) = z2 at *
  generalize sumF Wag.axl (l.drop k) = z3 at *
  have ll1 : (l.take k).length = k := by rw [List.length_take, ← HNL.out]; omega
  have ll2 : (l.drop k).length = n - k := by rw [List.length_drop, ← HNL.out]
  have LL1 := Lib.hid (show LenIs (l.take k) k from ll1)
  have LL2 := Lib.hid ll2
  have LL3 := Lib.hid (show LenIs (l.drop k ++ l.take k) n by show (l.drop k ++ l.take k).length = n; rw [List.length_append, ll1, ll2]; omega)
  clear ll1 ll2
  go_wp2_with fail
  refine (tot_at HT1.out A n c HNL.out.symm w2 HR.out).mono ?_
  rintro e w3 ⟨rfl, B3⟩
  have HB3 := Lib.hid (HB2.out.trans (B3.mono HB2.out.size))
  have HR3 := Lib.hid (HR.out.below B3)
  clear B3
  go_wp2_with fail
  refine (tot_at HT2.out A k c LL1.out w3 (HR3.out.take k)).mono ?_
  rintro e w4 ⟨rfl, B4⟩
  have HB4 := Lib.hid (HB3.out.trans (B4.mono HB3.out.size))
  have HR4 := Lib.hid (HR3.out.below B4)
  clear B4
  have HCUT := fun w (h : RRow WR w A l) => h.cut k c (by rw [← HNL.out]; exact hc1)
  have HCU := Lib.hid HCUT
  clear HCUT HR HR3 HB2 HB3
  by_cases hck : c = k
  · obtain rfl : k = n := by omega
    obtain rfl : k = c := by omega
    have HCX := Lib.hid (show ∀ w, RRow WR w A l → RRow WR w A (l.drop k) from fun w h => by have := HCU.out w h; rwa [if_pos rfl] at this)
    
    have LM := Lib.hid (show LenIs (l.drop k) 0 by show (l.drop k).length = 0; rw [LL2.out]; omega)
    clear hck
    go_wp2_with fail
    refine (tot_at HT3.out A 0 0 LM.out w4 (HCX.out w4 HR4.out)).mono ?_
    rintro e w5 ⟨rfl, B5⟩
    have HB5 := Lib.hid (HB4.out.trans (B5.mono HB4.out.size))
    have HR5 := Lib.hid (HR4.out.below B5)
    clear B5
    go_upto_region 7 with fail
    go_region_law (first
      | (refine step_app_src rfl (.tmp 66) (.tmp 69) 23 rfl w5.heap.size 30 i0 (aggW wag0) 8 80 Try.underlying23 hi hz0 hz1 hz2 rfl (by decide) _ 0 [] rfl (own_empty (Nat.le_refl _)) A 0 0 (WR.flat (l.drop k)) rfl (fun _ => ⟨rfl, rfl⟩) (by rw [flatR_len, show (l.drop k).length = _ from LM.out]; rfl) (VRow.news_of ((HCX.out _ ((HR5.out.alloc (.cells #[] 30)).drewN 1)).row)) (flatR_one WR _) (by unfold maxLen; omega) (by omega) (by simp) ?_; intro v7 w7 hown hg7; have S7 := Lib.hid (show Below w5.heap.size w5 w7 from (((Below.refl _ _).alloc (Nat.le_refl _) _).drew).grown hg7 (by simp) (fun g hg => Nat.le_of_eq (Option.some.inj (show some w5.heap.size = some g from hg)))); have W7 := Lib.hid hown; clear hown hg7)
      | (refine step_app_src rfl (.tmp 70) (.tmp 73) 23 rfl w5.heap.size 30 i0 (aggW wag0) 8 80 Try.underlying23 hi hz0 hz1 hz2 rfl (by decide) _ (0 + 0) ([] ++ WR.flat (l.drop k)) rfl W7.out A k k (WR.flat (l.take k)) rfl (fun e => by have := HN.out e; omega) (by rw [flatR_len, show (l.take k).length = _ from LL1.out]; rfl) (VRow.news_of (((HR5.out.below S7.out).take k).row)) (flatR_one WR _) (by unfold maxLen; omega) (by omega) S7.out.size ?_; intro v8 w8 hown hg8; have S8 := Lib.hid (show Below w5.heap.size w5 w8 from S7.out.grown hg8 S7.out.size (fun g hg => rows_block W7.out hg)); have W8 := Lib.hid (ROwn.app (R := WR) (l := l.drop k) (m := l.take k) (n := 0) (k := k) (by have := hown; rw [List.nil_append] at this; exact this) LM.out.symm LL1.out.symm); clear hown hg8; obtain ⟨A8, c8, e8, R8, _⟩ := W8.out.full; rw [show (l.drop k ++ l.take k).length = _ from LL3.out] at e8; subst e8; have HR8 := Lib.hid R8; clear R8)
      | (go_simp; go_at_call 24; refine (tot_at HT4.out A8 k c8 LL3.out _ HR8.out).mono ?_; rintro e w9 ⟨rfl, B9⟩; have HB9 := Lib.hid ((HB5.out.trans (S8.out.mono HB5.out.size)).trans (B9.mono (HB5.out.trans (S8.out.mono HB5.out.size)).size)); clear B9))
    go_wp2_with fail
    refine (sane_any _).mono ?_
    rintro e w10 ⟨rfl, B10⟩
    go_wp2_with fail
    go_ret
    exact ⟨rfl, HB9.out.trans (B10.mono HB9.out.size)⟩
  · obtain ⟨g, hAg⟩ : ∃ g, A = some ⟨g, 0, none⟩ := HAD.out.resolve_left (fun e => by have := HN.out e; omega)
    subst hAg
    have HCX := Lib.hid (show ∀ w, RRow WR w (some ⟨g, 0, none⟩) l → RRow WR w (some ⟨g, k * 8, none⟩) (l.drop k) from fun w h => by
      have := HCU.out w h
      rw [if_neg hck] at this
      have e : (some (⟨g, 0, none⟩ : Addr)).map (·.add (k * WR.m)) = some ⟨g, k * 8, none⟩ := congrArg some (add_own g _)
      rwa [e] at this)
    have LM := Lib.hid (show LenIs (l.drop k) (n - k) from LL2.out)
    go_wp2_with fail
    refine (tot_at HT3.out (some ⟨g, k * 8, none⟩) (n - k) (c - k) LM.out w4 (HCX.out w4 HR4.out)).mono ?_
    rintro e w5 ⟨rfl, B5⟩
    have HB5 := Lib.hid (HB4.out.trans (B5.mono HB4.out.size))
    have HR5 := Lib.hid (HR4.out.below B5)
    clear B5
    go_upto_region 7 with fail
    go_region_law (first
      | (refine step_app_src rfl (.tmp 66) (.tmp 69) 23 rfl w5.heap.size 30 i0 (aggW wag0) 8 80 Try.underlying23 hi hz0 hz1 hz2 rfl (by decide) _ 0 [] rfl (own_empty (Nat.le_refl _)) (some ⟨g, k * 8, none⟩) (n - k) (c - k) (WR.flat (l.drop k)) rfl (fun e => by cases e) (by rw [flatR_len, show (l.drop k).length = _ from LM.out]; rfl) (VRow.news_of ((HCX.out _ ((HR5.out.alloc (.cells #[] 30)).drewN 1)).row)) (flatR_one WR _) (by unfold maxLen; omega) (by omega) (by simp) ?_; intro v7 w7 hown hg7; have S7 := Lib.hid (show Below w5.heap.size w5 w7 from (((Below.refl _ _).alloc (Nat.le_refl _) _).drew).grown hg7 (by simp) (fun g hg => Nat.le_of_eq (Option.some.inj (show some w5.heap.size = some g from hg)))); have W7 := Lib.hid hown; clear hown hg7)
      | (refine step_app_src rfl (.tmp 70) (.tmp 73) 23 rfl w5.heap.size 30 i0 (aggW wag0) 8 80 Try.underlying23 hi hz0 hz1 hz2 rfl (by decide) _ (0 + (n - k)) ([] ++ WR.flat (l.drop k)) rfl W7.out (some ⟨g, 0, none⟩) k c (WR.flat (l.take k)) rfl (fun e => by cases e) (by rw [flatR_len, show (l.take k).length = _ from LL1.out]; rfl) (VRow.news_of (((HR5.out.below S7.out).take k).row)) (flatR_one WR _) (by unfold maxLen; omega) (by omega) S7.out.size ?_; intro v8 w8 hown hg8; have S8 := Lib.hid (show Below w5.heap.size w5 w8 from S7.out.grown hg8 S7.out.size (fun g hg => rows_block W7.out hg)); have W8 := Lib.hid (ROwn.app (R := WR) (l := l.drop k) (m := l.take k) (n := (n - k)) (k := k) (by have := hown; rw [Nat.zero_add, List.nil_append] at this; exact this) LM.out.symm LL1.out.symm); clear hown hg8; obtain ⟨A8, c8, e8, R8, _⟩ := W8.out.full; rw [show (l.drop k ++ l.take k).length = _ from LL3.out] at e8; subst e8; have HR8 := Lib.hid R8; clear R8)
      | (go_simp; go_at_call 24; refine (tot_at HT4.out A8 n c8 LL3.out _ HR8.out).mono ?_; rintro e w9 ⟨rfl, B9⟩; have HB9 := Lib.hid ((HB5.out.trans (S8.out.mono HB5.out.size)).trans (B9.mono (HB5.out.trans (S8.out.mono HB5.out.size)).size)); clear B9))
    go_wp2_with fail
    refine (sane_any _).mono ?_
    rintro e w10 ⟨rfl, B10⟩
    go_wp2_with fail
    go_ret
    exact ⟨rfl, HB9.out.trans (B10.mono HB9.out.size)⟩
end Go.Proofs.Ytdgekianmkgeiaa
