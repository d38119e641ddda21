/-
  Stage 5: the program's Through.
-/
import Derived.Test.YtbnlaopmmgoalaaSTot
import Derived.Test.YtbnlaopmmgoalaaNum
set_option linter.unusedSimpArgs false
set_option linter.unusedVariables false
namespace Go.Proofs.Ytbnlaopmmgoalaa
open Go.RowKit

theorem infoInt : (Try.prog.info? 3).map (fun i => (i.zero, i.size, i.bytes)) = some (some (.int .i64 0), 1, 8) := by kernel_rfl
theorem sizeTot : (Try.prog.info? 53).map (·.size) = some 2 := by kernel_rfl
theorem idx_tot (l : List Pul) (k : Nat) (hk : k < 32) (w : World) :
    (Instr.index 54 (arr (tl l)) (.int .i64 (k : Int))).run Try.prog w = .ok (.agg #[.int .i64 (sum (nb k) l), .int .i64 (sum (sb k) l)]) w := by
  have he : ((tl l).map (Value.int .i64)).toArray.extract (k * 2) (k * 2 + 2) = #[.int .i64 (sum (nb k) l), .int .i64 (sum (sb k) l)] := by
    apply Array.ext
    · simp [tl_len]; omega
    · intro i h1 h2
      have hi : i < 2 := by simpa using h2
      have e : ∀ j (h : j < (tl l).length), (tl l)[j] = (tl l).getD j 0 := fun j h => by rw [List.getD_eq_getElem?_getD, List.getElem?_eq_getElem h, Option.getD_some]
      rcases (by omega : i = 0 ∨ i = 1) with rfl | rfl
      · simp only [List.getElem_toArray, Array.getElem_extract, List.getElem_map, e]
        simp; exact (by rw [← List.getD_eq_getElem?_getD]; exact tl_even l k hk)
      · simp only [List.getElem_toArray, Array.getElem_extract, List.getElem_map, e]
        simp; exact (by rw [← List.getD_eq_getElem?_getD]; exact tl_odd l k hk)
  have hsz := sizeTot
  cases hq : Try.prog.info? 53 with
  | none => rw [hq] at hsz; cases hsz
  | some i =>
    rw [hq] at hsz
    have hs : i.size = 2 := by simpa using hsz
    have hlt : (k : Int) < 32 := by omega
    simp [Instr.index, asIntOf, Sem.run_bind, Result.andThen, run_underlying Try.underlying54, part, isAgg, run_underlying Try.underlying53, sizeOf, typeInfo, hq, hs, hlt, he]
    rw [if_pos hk]
    have he' := congrArg Array.toList he
    simp at he'
    rw [he']

def ThrPost (l : List Pul) (w : World) (e : Ending) (w' : World) : Prop := ∃ v, e = .returned (.tuple #[v, .int .i64 (thrR l).2]) ∧ Own .i64 3 w' w.heap.size v (thrR l).1 ∧ Below w.heap.size w w'
theorem ThrPost.bad {l : List Pul} {x : Int} {w w' : World} {e : Ending} (h : bordR l = x) (hx : x ≠ 0) (h1 : e = .returned (.tuple #[.slice none 0 0, .int .i64 x])) (h2 : Below w.heap.size w w') : ThrPost l w e w' := by
  unfold ThrPost thrR
  rw [if_neg (by rw [h]; exact hx), h]
  exact ⟨_, h1, Own.nil, h2⟩
theorem ThrPost.good {l : List Pul} {v : Value} {w w' : World} {e : Ending} (h : bordR l = 0) (h1 : e = .returned (.tuple #[v, .int .i64 0])) (h3 : Own .i64 3 w' w.heap.size v (thr l 32)) (h2 : Below w.heap.size w w') : ThrPost l w e w' := by
  unfold ThrPost thrR
  rw [if_pos h]
  exact ⟨_, h1, h3, h2⟩
theorem thr_yes {l : List Pul} {k : Nat} (h1 : sum (nb k) l = 2) (h2 : sum (sb k) l = 0) : thr l (k + 1) = thr l k ++ [(k : Int)] := by
  show (if thrOk l k then _ else _) = _
  rw [if_pos ⟨h1, h2⟩]
theorem thr_no {l : List Pul} {k : Nat} (h : ¬ (sum (nb k) l = 2 ∧ sum (sb k) l = 0)) : thr l (k + 1) = thr l k := by
  show (if thrOk l k then _ else _) = _
  exact if_neg h
theorem bor_ok {l : List Pul} (h : Bor l) : ∀ b ∈ l, okB b := by
  induction l with
  | nil => intro b hb; cases hb
  | cons a l ih =>
    intro b hb
    rcases List.mem_cons.1 hb with rfl | hb
    · exact h.1
    · exact ih h.2.2 b hb

set_option maxHeartbeats 1600000 in
theorem pthr_any (l : List Pul) (A : Option Addr) (c : Nat) (w : World) (h : PRow w A l) :
    Calls Try.prog 10 #[.slice A l.length c] w (ThrPost l w) := by
  obtain ⟨i0, hi, hz0, hz1, hz2⟩ := info_parts infoInt
  have hl : l.length ≤ 9223372036854775807 := h.len
  have H := Lib.hid h
  clear h
  go_enter Try.func10, Try.ntmps10
  go_wp2_with fail
  refine (bvalid_any l A c w H.out).mono ?_
  rintro e w1 ⟨rfl, B1⟩
  have HB1 := Lib.hid B1
  obtain ⟨eb, heb⟩ : ∃ eb, eb = bordR l := ⟨_, rfl⟩
  have HEB := Lib.hid heb
  rw [← heb]
  clear B1 heb
  by_cases hb0 : eb = 0
  · subst hb0
    obtain ⟨hbor, h64⟩ := bord_zero HEB.out.symm
    go_wp2_with fail
    refine (tot_any l A c w1 (H.out.below HB1.out) (bor_ok hbor) h64).mono ?_
    rintro e w2 ⟨rfl, B2⟩
    have HB2 := Lib.hid (HB1.out.trans (B2.mono HB1.out.size))
    have HIX := Lib.hid (idx_tot l)
    generalize arr (tl l) = va at HIX ⊢
    clear B2 hbor h64
    go_wp2_with fail
    go_loopw [15, 5] (fun i ov wr => ∃ k : Nat, k ≤ 32 ∧ i = .int .i64 k ∧ Hid (Own .i64 3 wr w.heap.size ov (thr l k)) ∧ Hid (Below w.heap.size w wr)) (fun i _ _ => 32 - (intOf i).toNat)
    case atStart => exact ⟨0, by omega, rfl, Lib.hid Own.nil, HB2⟩
    case round =>
      obtain ⟨k, hk, rfl, O, B⟩ := hrel
      by_cases hlt : k < 32
      · have hix := HIX.out k hlt wr
        obtain ⟨u, hu⟩ : ∃ u, u = sum (nb k) l := ⟨_, rfl⟩
        obtain ⟨v, hv⟩ : ∃ u, u = sum (sb k) l := ⟨_, rfl⟩
        rw [← hu, ← hv] at hix
        have HU := Lib.hid hu
        have HV := Lib.hid hv
        have O1 := Lib.hid (O.out.alloc (.cells #[.int .i64 u, .int .i64 v] 53))
        have B1 := Lib.hid (B.out.alloc B.out.size (.cells #[.int .i64 u, .int .i64 v] 53))
        clear hu hv O
        by_cases h2 : u = 2
        · by_cases h0 : v = 0
          · have E := Lib.hid (thr_yes (l := l) (k := k) (HU.out.symm.trans h2) (HV.out.symm.trans h0))
            have HL := Lib.hid (thr_len l k)
            subst h2; subst h0
            have HN := Lib.hid (news_int (k := .i64) (W := wr.alloc (.cells #[.int .i64 2, .int .i64 0] 53)) (T := 3) (ys := [(k : Int)]))
            rw [World.size_alloc] at HN
            have HBS := Lib.hid (show w.heap.size ≤ wr.heap.size + 1 + 1 by have := B.out.size; omega)
            go_wp2_with (first | (at_builtin; refine wpList_append_lies _ rfl (.tmp 27) (.tmp 29) 27 rfl w.heap.size 3 i0 (.int .i64 0) 1 8 Try.underlying27 hi hz0 hz1 hz2 rfl (by decide) _ (thr l k).length ((thr l k).map (Value.int .i64)) rfl (O1.out.alloc _) ⟨wr.heap.size + 1, 0, none⟩ 1 1 ([(k : Int)].map (Value.int .i64)) rfl rfl HN.out (one_cells (ys := [(k : Int)])) (by decide) (by unfold maxLen; have := HL.out; omega) (by have := HL.out; omega) (by simp only [World.size_alloc]; exact HBS.out) _ rfl ?_; intro g cap w6 hown hgr hgb hlt2))
            have AP := Lib.hid (Own.app (zs := thr l k) (ys := [(k : Int)]) hown rfl rfl)
            have B2 := Lib.hid ((B1.out.alloc B1.out.size (.cells #[.int .i64 (k : Int)] 3)).grown hgr (by have := HBS.out; simp; omega) (fun j hj => (own_block O1.out hj).1))
            clear hown hgr hgb hlt2
            go_roundw
            case rel => exact ⟨k + 1, by omega, by go_num, Lib.hid (by rw [E.out]; exact AP.out), B2⟩
            case measure => simp [intOf]; omega
          · have h0' : (v == 0) = false := beq_eq_false_iff_ne.2 h0
            have E := Lib.hid (thr_no (l := l) (k := k) (fun h => h0 (HV.out.trans h.2)))
            subst h2
            clear h0
            go_wp2_with fail
            go_roundw
            case rel => exact ⟨k + 1, by omega, by go_num, Lib.hid (by rw [E.out]; exact O1.out), B1⟩
            case measure => simp [intOf]; omega
        · have h2' : (u == 2) = false := beq_eq_false_iff_ne.2 h2
          have E := Lib.hid (thr_no (l := l) (k := k) (fun h => h2 (HU.out.trans h.1)))
          clear h2
          go_wp2_with fail
          go_roundw
          case rel => exact ⟨k + 1, by omega, by go_num, Lib.hid (by rw [E.out]; exact O1.out), B1⟩
          case measure => simp [intOf]; omega
      · obtain rfl : k = 32 := by omega
        have O' := O.out
        have HO := Lib.hid O'
        clear O' O hlt hk
        go_wp2_with fail
        go_ret2
        exact ThrPost.good HEB.out.symm rfl HO.out B.out
  · have hb1 : (eb == 0) = false := beq_eq_false_iff_ne.2 hb0
    have HB0 := Lib.hid hb0
    clear hb0
    go_wp2_with fail
    go_ret2
    exact ThrPost.bad HEB.out.symm HB0.out rfl HB1.out
end Go.Proofs.Ytbnlaopmmgoalaa
