/-
  Stage 6: the first error of a list: the reference.
-/
import Derived.Test.YtjgeolfjhfdbmaaCList
import Derived.Test.YtjgeolfjhfdbmaaCRvalid
set_option linter.unusedSimpArgs false
set_option linter.unusedVariables false
namespace Go.Proofs.Ytjgeolfjhfdbmaa
open Go.RowKit

/-- The names are no longer than memory. -/
def Sz (l : List Wag) : Prop := ∀ x ∈ l, x.dst.size ≤ 4611686018427387904
theorem seenK_step {l : List Wag} {j : Nat} {y : Wag} {s : ByteArray} (hy : l[j]? = some y) (h : s ∉ seenK l j) (hne : y.num ≠ s) : s ∉ seenK l (j + 1) := by
  obtain ⟨hj, e⟩ := List.getElem?_eq_some_iff.1 hy
  obtain ⟨x, hx, _, ht⟩ := drop_ex hj
  rw [hy] at hx
  injection hx with hx
  subst hx
  rw [seenK_snoc ht]
  intro g
  rcases List.mem_append.1 g with g | g
  · exact h g
  · simp at g; exact hne g.symm
theorem seenK_mem {l : List Wag} {j k : Nat} {y : Wag} (hy : l[j]? = some y) (hj : j < k) : y.num ∈ seenK l k := by
  unfold seenK
  refine List.mem_map.2 ⟨y, ?_, rfl⟩
  rw [List.mem_iff_getElem?]
  exact ⟨j, by rw [List.getElem?_take, if_pos hj]; exact hy⟩
theorem list_ne {a b : ByteArray} (h : a ≠ b) : (a.toList == b.toList) = false := by
  rw [beq_eq_false_iff_ne]
  intro e
  rw [ByteArray.toList_eq, ByteArray.toList_eq] at e
  refine h ?_
  cases a; cases b
  congr 1
  exact Array.toList_inj.1 e
set_option maxHeartbeats 1600000 in
theorem rlist_any (l : List Wag) (A : Option Addr) (c : Nat) (w : World) (h : RRow WR w A l) (hz : Sz l) :
    Calls Try.prog 17 #[.slice A l.length c] w (VlPost l w) := by
  have hl : l.length ≤ 9223372036854775807 := h.len
  by_cases hbig : 96 < l.length
  · have HP := Lib.hid (show validL l = 3 by unfold validL; rw [if_pos hbig])
    have hb : (96 : Int) < (l.length : Int) := by omega
    clear h
    go_enter Try.func17, Try.ntmps17
    go_wp2_with fail
    go_ret
    exact VlPost.mk' HP.out (Below.refl _ _)
  · have H := Lib.hid h
    have HSZ := Lib.hid hz
    have HP := Lib.hid (show validL l = vl (seenK l 0) (l.drop 0) by unfold validL; rw [if_neg hbig]; rfl)
    obtain ⟨L, hL⟩ : ∃ n, n = l.length := ⟨_, rfl⟩
    have HL := Lib.hid hL
    rw [← hL] at hl hbig ⊢
    clear h hL hz
    go_enter Try.func17, Try.ntmps17
    go_wp2_with fail
    go_loopw [3] (fun i wr => ∃ k : Nat, k ≤ L ∧ i = .int .i64 k ∧ Hid (validL l = vl (seenK l k) (l.drop k)) ∧ Hid (Below w.heap.size w wr)) (fun i _ => L - (intOf i).toNat)
    case atStart => exact ⟨0, by omega, rfl, HP, Lib.hid (Below.refl _ _)⟩
    case round =>
      clear HP
      obtain ⟨k, hk, rfl, V, B⟩ := hrel
      obtain ⟨wo, hwo⟩ : ∃ x, x = wr := ⟨_, rfl⟩
      rw [← hwo] at B ⊢
      clear hwo
      by_cases hlt : k < L
      · obtain ⟨x, hx, hd, ht⟩ := drop_ex (l := l) (k := k) (by rw [← HL.out]; exact hlt)
        obtain ⟨ad, rfl, C⟩ := (H.out.below B.out).at_ hx
        obtain ⟨c0, c1, c2, c3, c4, c5, c6, c7⟩ := WSpelt.of C
        have hv := V.out
        rw [hd] at hv
        have HV := Lib.hid hv
        have HT := Lib.hid (seenK_snoc ht)
        have HX := Lib.hid hx
        have HZ := Lib.hid (HSZ.out x (List.mem_of_getElem? hx))
        clear hx hd ht hv V C
        go_wp2_with fail
        refine (crvalid_any x _ HZ.out).mono ?_
        rintro e w1 ⟨rfl, B1⟩
        clear c0 c1 c2 c3 c4 c5 c6 c7
        have BB := Lib.hid (B.out.trans (B1.mono B.out.size))
        clear B1 B
        obtain ⟨e, he⟩ : ∃ e, e = validW x := ⟨_, rfl⟩
        have HE := Lib.hid he
        rw [← he]
        clear he
        by_cases h0 : e ≠ 0
        · have HV2 := Lib.hid (HV.out.trans (vl_bad (by rw [← HE.out]; exact h0)))
          have ev : (e != 0) = true := bne_iff_ne.2 h0
          have HV3 := Lib.hid (HV2.out.trans HE.out.symm)
          clear h0
          go_wp2_with fail
          go_ret
          exact VlPost.mk' HV3.out BB.out
        · obtain rfl := Decidable.of_not_not h0
          clear h0
          go_wp2_with fail
          go_loopw [5] (fun i wi => ∃ j : Nat, j ≤ k ∧ i = .int .i64 j ∧ Hid (x.num ∉ seenK l j) ∧ Hid (Below w.heap.size w wi)) (fun i _ => k - (intOf i).toNat)
          case atStart => exact ⟨0, by omega, rfl, Lib.hid (by unfold seenK; simp), BB⟩
          case round =>
            clear BB
            obtain ⟨j, hj, rfl, S, B2⟩ := hrel
            by_cases hjk : j < k
            · obtain ⟨y, hy, _, _⟩ := drop_ex (l := l) (k := j) (by rw [← HL.out]; omega)
              obtain ⟨ad1, e1, C1⟩ := (H.out.below B2.out).at_ hy
              injection e1 with e1
              subst e1
              obtain ⟨ad2, e2, C2⟩ := (H.out.below B2.out).at_ HX.out
              injection e2 with e2
              subst e2
              have d0 := (WSpelt.of C1).c0
              have c0 := (WSpelt.of C2).c0
              have hjL : (j : Int) < (L : Int) := by omega
              have hkL : (k : Int) < (L : Int) := by omega
              have HY := Lib.hid hy
              clear C1 C2 hy
              by_cases hn : y.num = x.num
              · have HV2 := Lib.hid (HV.out.trans (vl_dup HE.out.symm (by rw [← hn]; exact seenK_mem HY.out hjk)))
                have hd : (y.num.toList == x.num.toList) = true := by rw [hn]; exact beq_self_eq_true _
                go_wp2_with fail
                go_quiet (fail)
                go_wp2_with fail
                go_ret
                exact VlPost.mk' HV2.out (bdn B2.out)
              · have HS := Lib.hid (seenK_step HY.out S.out hn)
                have hd := list_ne hn
                go_wp2_with fail
                go_quiet (fail)
                go_wp2_with fail
                go_roundw
                case rel => exact ⟨j + 1, by omega, by go_num, HS, Lib.hid (bdn B2.out)⟩
                case measure => simp [intOf]; omega
            · obtain rfl : j = k := by omega
              have HV2 := Lib.hid (HV.out.trans (vl_ok HE.out.symm S.out))
              go_wp2_with fail
              go_roundw
              case rel => exact ⟨j + 1, by omega, by go_num, Lib.hid (by rw [HT.out]; exact HV2.out), B2⟩
              case measure => simp [intOf]; omega
      · obtain rfl : k = L := by omega
        have hv := V.out
        rw [HL.out, List.drop_length] at hv
        have HV := Lib.hid hv
        clear hv hlt hk
        go_wp2_with fail
        go_ret
        exact VlPost.mk' HV.out B.out
end Go.Proofs.Ytjgeolfjhfdbmaa
