/-
  Stage 6: the first error of a list: the program.
-/
import Derived.Test.YtjgeolfjhfdbmaaCMap
import Derived.Test.YtjgeolfjhfdbmaaCValid
set_option linter.unusedSimpArgs false
set_option linter.unusedVariables false
namespace Go.Proofs.Ytjgeolfjhfdbmaa
open Go.RowKit

def VlPost (l : List Wag) (w : World) (e : Ending) (w' : World) : Prop := e = .returned (.int .i64 (validL l)) ∧ Below w.heap.size w w'
theorem VlPost.mk' {l : List Wag} {w w' : World} {v : Int} (h : validL l = v) (b : Below w.heap.size w w') : VlPost l w (.returned (.int .i64 v)) w' := ⟨by rw [h], b⟩
theorem num_size {x : Wag} (h : validW x = 0) : x.num.size ≤ maxLen := by
  have := (validR_size (validW_parts h).1).1
  unfold maxLen; omega
set_option maxHeartbeats 1600000 in
theorem plist_any (l : List Wag) (A : Option Addr) (c : Nat) (w : World) (h : RRow WR w A l) :
    Calls Try.prog 31 #[.slice A l.length c] w (VlPost l w) := by
  have hl : l.length ≤ 9223372036854775807 := h.len
  by_cases hbig : 96 < l.length
  · have HP := Lib.hid (show validL l = 3 by unfold validL; rw [if_pos hbig])
    have hb : (96 : Int) < (l.length : Int) := by omega
    clear h
    go_enter Try.func31, Try.ntmps31
    go_wp2_with fail
    go_ret
    exact VlPost.mk' HP.out (Below.refl _ _)
  · have H := Lib.hid h
    have HP := Lib.hid (show validL l = vl (seenK l 0) (l.drop 0) by unfold validL; rw [if_neg hbig]; rfl)
    obtain ⟨L, hL⟩ : ∃ n, n = l.length := ⟨_, rfl⟩
    have HL := Lib.hid hL
    rw [← hL] at hl hbig ⊢
    clear h hL
    have hmm : ∀ w, (Instr.makeMap 67 (some (.int .i64 (L : Int)))).run Try.prog w = .ok (.map (some w.heap.size)) (w.alloc (.map #[] 0)) := fun w => by
      simp [Instr.makeMap, run_underlying Try.underlying67, Result.andThen, asInt, asIntOf]
    go_enter Try.func31, Try.ntmps31
    go_wp2_with fail
    go_loopw [15] (fun i wr => ∃ k : Nat, k ≤ L ∧ i = .int .i64 k ∧ Hid (validL l = vl (seenK l k) (l.drop k)) ∧ Hid (BMap wr w.heap.size k (seenK l k)) ∧ Hid (Below w.heap.size w wr)) (fun i _ => L - (intOf i).toNat)
    case atStart => exact ⟨0, by omega, rfl, HP, Lib.hid (BMap.made w), Lib.hid ((Below.refl _ _).alloc (Nat.le_refl _) _)⟩
    case round =>
      clear HP hmm
      obtain ⟨k, hk, rfl, V, M, B⟩ := hrel
      by_cases hlt : k < L
      · obtain ⟨x, hx, hd, ht⟩ := drop_ex (l := l) (k := k) (by rw [← HL.out]; exact hlt)
        obtain ⟨ad, rfl, C⟩ := (H.out.below B.out).at_ hx
        obtain ⟨c0, c1, c2, c3, c4, c5, c6, c7⟩ := WSpelt.of C
        have hv := V.out
        rw [hd] at hv
        have HV := Lib.hid hv
        have HT := Lib.hid (seenK_snoc ht)
        clear hx hd ht hv V C
        go_wp2_with fail
        refine (cvalid_any x _).mono ?_
        rintro e w' ⟨rfl, B1⟩
        clear c0 c1 c2 c3 c4 c5 c6 c7
        have HX := Lib.hid ((newW wr x 30 wr.heap.size rfl).below B1)
        have BB := Lib.hid (B.out.trans ((below1 B1).mono B.out.size))
        have M1 := Lib.hid ((M.out.alloc (.cells #[.string x.num, .int .i64 x.len, .int .i64 x.axl, .int .i64 x.mas, .int .i64 x.brk, .int .i64 x.gds, .bool x.gen, .string x.dst] 30)).below B1)
        clear B1 M B
        obtain ⟨e, he⟩ : ∃ e, e = validW x := ⟨_, rfl⟩
        have HE := Lib.hid he
        rw [← he]
        clear he
        by_cases h0 : e ≠ 0
        · have HV2 := Lib.hid (HV.out.trans (vl_bad (by rw [← HE.out]; exact h0)))
          have ev : (e != 0) = true := bne_iff_ne.2 h0
          have HV3 := Lib.hid (HV2.out.trans HE.out.symm)
          clear h0
          go_wp2_with fail
          go_ret
          exact VlPost.mk' HV3.out BB.out
        · obtain rfl := Decidable.of_not_not h0
          clear h0
          have c0 := (WBlk.of HX.out).c0
          have hsz := num_size HE.out.symm
          have hlook := M1.out.look x.num hsz
          have HS := Lib.hid hsz
          clear hsz
          by_cases hm : x.num ∈ seenK l k
          · have HV2 := Lib.hid (HV.out.trans (vl_dup HE.out.symm hm))
            rw [decide_eq_true hm] at hlook
            clear hm
            go_wp2_with fail
            go_ret
            exact VlPost.mk' HV2.out BB.out
          · have HV2 := Lib.hid (HV.out.trans (vl_ok HE.out.symm hm))
            rw [decide_eq_false hm] at hlook
            clear hm
            obtain ⟨w3, hput, M3, G3⟩ := M1.out.put (by unfold maxLen; omega) x.num HS.out
            have M3' := Lib.hid M3
            have G3' := Lib.hid G3
            clear M3 G3
            go_wp2_with fail
            go_roundw
            case rel => exact ⟨k + 1, by omega, by go_num, Lib.hid (by rw [HT.out]; exact HV2.out), Lib.hid (by rw [HT.out]; exact M3'.out), Lib.hid (BB.out.grown G3'.out (by have := M1.out.lt; have := BB.out.size; omega) (fun j hj => by injection hj with hj; omega))⟩
            case measure => simp [intOf]; omega
      · obtain rfl : k = L := by omega
        have hv := V.out
        rw [HL.out, List.drop_length] at hv
        have HV := Lib.hid hv
        clear hv hlt hk
        go_wp2_with fail
        go_ret
        exact VlPost.mk' HV.out B.out
end Go.Proofs.Ytjgeolfjhfdbmaa
