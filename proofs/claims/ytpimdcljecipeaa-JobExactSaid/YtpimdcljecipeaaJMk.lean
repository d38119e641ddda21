/-
  Stage 11: the maker's Items and Job.
-/
import Derived.Test.YtpimdcljecipeaaJSaneA
import Derived.Test.YtpimdcljecipeaaMkPick
set_option linter.unusedSimpArgs false
set_option linter.unusedVariables false
namespace Go.Proofs.Ytpimdcljecipeaa
open Go.RowKit Go.Lib

theorem infoIt : (Try.prog.info? 44).map (fun i => (i.zero, i.size, i.bytes)) = some (some (.agg #[.int .i64 0, .int .i64 0, .int .i64 0, .int .i64 0]), 4, 32) := by kernel_rfl
/-- A made item: at most three trains, six blocks, a round up to four. -/
def okM (r : Int) (p : It) : Prop := (0 ≤ p.1 ∧ p.1 ≤ 2) ∧ (0 ≤ p.2.1 ∧ p.2.1 ≤ 5) ∧ (r ≤ p.2.2.1 ∧ p.2.2.1 ≤ 4) ∧ (80 ≤ p.2.2.2 ∧ p.2.2.2 ≤ 262)
/-- A made list behind round r. -/
def runM (r : Int) : List It → Prop
  | [] => True
  | p :: l => okM r p ∧ runM p.2.2.1 l
theorem runM_snoc {r : Int} {l : List It} {p : It} (h : runM r l) (hp : okM r p) (hl : ∀ q ∈ l, q.2.2.1 ≤ p.2.2.1) : runM r (l ++ [p]) := by
  induction l generalizing r with
  | nil => exact ⟨hp, trivial⟩
  | cons q l ih =>
    have h2 := hl q (List.mem_cons_self ..)
    exact ⟨h.1, ih h.2 ⟨hp.1, hp.2.1, ⟨h2, hp.2.2.1.2⟩, hp.2.2.2⟩ (fun x hx => hl x (List.mem_cons_of_mem _ hx))⟩
theorem runM_mem {r : Int} {l : List It} (h : runM r l) : ∀ q ∈ l, okM r q := by
  induction l generalizing r with
  | nil => intro q hq; cases hq
  | cons p l ih =>
    intro q hq
    rcases List.mem_cons.1 hq with rfl | hq
    · exact h.1
    · have := ih h.2 q hq
      exact ⟨this.1, this.2.1, ⟨by have := this.2.2.1.1; have := h.1.2.2.1.1; omega, this.2.2.1.2⟩, this.2.2.2⟩
theorem runM_vw {r : Int} (hr : 0 ≤ r) {l : List It} (h : runM r l) : vwI r l = 0 := by
  induction l generalizing r with
  | nil => rfl
  | cons p l ih =>
    obtain ⟨h1, h2⟩ := h
    obtain ⟨⟨a1, a2⟩, ⟨b1, b2⟩, ⟨c1, c2⟩, ⟨d1, d2⟩⟩ := h1
    show (if okI p then (if p.2.2.1 < r then 12 else vwI p.2.2.1 l) else 2) = 0
    rw [if_pos ⟨⟨a1, by omega⟩, ⟨b1, by omega⟩, ⟨by omega, by omega⟩, ⟨by omega, by omega⟩⟩, if_neg (by omega)]
    exact ih (by omega) h2
def ItsPost (m M n : Nat) (w : World) (e : Ending) (w' : World) : Prop :=
  ∃ v l, e = .returned v ∧ IOwn 44 w' w.heap.size v l ∧ l.length ≤ n ∧ runM 0 l ∧ IsMk w' m M ∧ Moves m w w'
set_option maxRecDepth 100000 in
set_option maxHeartbeats 3200000 in
theorem mitems_any (m N n : Nat) (w : World) (h : IsMk w m N) (hN : N ≤ 1000000) (hn : n ≤ 1000) :
    Calls Try.prog 12 #[.pointer (some ⟨m, 0, none⟩), .int .i64 (n : Int)] w (ItsPost m (N + 4 + 5 * n) n w) := by
  obtain ⟨i0, hi, hz0, hz1, hz2⟩ := info_parts infoIt
  have hm := h.lt
  go_enter Try.func12, Try.ntmps12
  go_wp2_with fail
  refine (next_any m N _ _ h (by omega) (by omega) (by omega)).mono ?_
  rintro e w1 ⟨a0, rfl, a1, a2, k1, v1⟩
  have HK1 := Lib.hid k1
  have HV1 := Lib.hid v1
  obtain ⟨lt, hlt⟩ : ∃ x : Bool, x = (a0 == 0) := ⟨_, rfl⟩
  clear k1 v1 h
  go_wp2_with fail
  rw [← hlt]
  refine (next_any m (N + 1) _ _ HK1.out (by omega) (by omega) (by omega)).mono ?_
  rintro e w2 ⟨t0, rfl, t1, t2, k2, v2⟩
  have HK2 := Lib.hid k2
  have HV2 := Lib.hid (HV1.out.trans v2)
  clear k2 v2 HK1 HV1 hlt a1 a2
  go_wp2_with fail
  refine (next_any m (N + 1 + 1) _ _ HK2.out (by omega) (by omega) (by omega)).mono ?_
  rintro e w3 ⟨b0, rfl, b1, b2, k3, v3⟩
  have HK3 := Lib.hid k3
  have HV3 := Lib.hid (HV2.out.trans v3)
  clear k3 v3 HK2 HV2
  go_wp2_with fail
  refine (next_any m (N + 1 + 1 + 1) _ _ HK3.out (by omega) (by omega) (by omega)).mono ?_
  rintro e w4 ⟨k0, rfl, k1, k2, k4, v4⟩
  have HK := Lib.hid k4
  have HM := Lib.hid (HV3.out.trans v4)
  obtain ⟨k0, rfl⟩ := Int.eq_ofNat_of_zero_le k1
  clear k4 v4 HK3 HV3 k1
  go_wp2_with fail
  go_loopw [5, 9, 10] (fun ov rv iv wr => ∃ (l : List It) (k M : Nat) (R : Int), iv = .int .i64 (k : Int) ∧ l.length + k ≤ n ∧ rv = .int .i64 R ∧ (0 ≤ R ∧ R ≤ 4) ∧ M + 5 * k ≤ N + 4 + 5 * n ∧ Hid (IOwn 44 wr w.heap.size ov l) ∧ Hid (runM 0 l ∧ ∀ q ∈ l, q.2.2.1 ≤ R) ∧ Hid (IsMk wr m M) ∧ Hid (Moves m w wr)) (fun _ _ iv _ => (intOf iv).toNat)
  case atStart => exact ⟨[], k0, N + 1 + 1 + 1 + 1, 0, rfl, by simp; omega, rfl, ⟨by omega, by omega⟩, by omega, Lib.hid IOwn.nil, Lib.hid ⟨trivial, fun q hq => (by cases hq)⟩, HK, HM⟩
  case round =>
    clear HK HM
    obtain ⟨l, k, M, R, rfl, hk, rfl, hR, hM, O, RN, K, V⟩ := hrel
    by_cases hk0 : k = 0
    · subst hk0
      have K' := Lib.hid (K.out.more (show M ≤ N + 4 + 5 * n by omega))
      have HLN := Lib.hid (show l.length ≤ n by omega)
      go_wp2_with fail
      go_ret
      exact ⟨_, l, rfl, O.out, HLN.out, RN.out.1, K'.out, V.out⟩
    · have hkp : (0 : Int) < (k : Int) := by omega
      go_upto_region 7 with fail
      go_cut [33] (fun bv wx => ∃ bb : Bool, bv = .bool bb ∧ Hid (IOwn 44 wx w.heap.size u5 l) ∧ Hid (IsMk wx m (M + 1)) ∧ Hid (Moves m w wx))
      case first =>
        cases lt with
        | false =>
          go_wp2_with fail
          go_meet
          case rel => exact ⟨false, rfl, O, Lib.hid (K.out.more (by omega)), V⟩
        | true =>
          go_wp2_with fail
          refine (next_any m M _ _ K.out (by omega) (by omega) (by omega)).mono ?_
          rintro e w5 ⟨x, rfl, _, _, k5, v5⟩
          have V5 := Lib.hid (V.out.trans v5)
          have O5 := Lib.hid (O.out.moves v5 hm)
          have K5 := Lib.hid k5
          clear k5 v5
          go_wp2_with fail
          go_meet
          case rel => exact ⟨_, rfl, O5, K5, V5⟩
      case rest =>
        clear O K V
        obtain ⟨bb, rfl, O, K, V⟩ := hcut
        cases bb with
        | false =>
          go_wp2_with fail
          refine (next_any m (M + 1) _ _ K.out (by omega) (by omega) (by omega)).mono ?_
          rintro e w5 ⟨t, rfl, t3, t4, k5, v5⟩
          have V5 := Lib.hid (V.out.trans v5)
          have O5 := Lib.hid (O.out.moves v5 hm)
          have K5 := Lib.hid k5
          clear k5 v5
          go_wp2_with fail
          refine (next_any m (M + 1 + 1) _ _ K5.out (by omega) (by omega) (by omega)).mono ?_
          rintro e w6 ⟨b, rfl, b3, b4, k6, v6⟩
          have V6 := Lib.hid (V5.out.trans v6)
          have O6 := Lib.hid (O5.out.moves v6 hm)
          have K6 := Lib.hid k6
          clear k6 v6 V5 O5 K5
          go_wp2_with fail
          refine (pick_any m (M + 1 + 1 + 1) (fun v => 80 ≤ v ∧ v ≤ 262) _ 4 4 _ (K6.out.alloc _) (by omega) (by omega) (by omega) (by have := K6.out.lt; omega) (by simp) (by exact new_pick _ _ _ [80, 142, 199, 262] (by decide) _ rfl)).mono ?_
          rintro e w7 ⟨g, rfl, ⟨g1, g2⟩, k7, v7⟩
          have V7 := Lib.hid ((V6.out.alloc _).trans v7)
          have O7 := Lib.hid ((O6.out.alloc _).moves v7 hm)
          have K7 := Lib.hid k7
          have HLN := Lib.hid (show l.length ≤ 1000 by omega)
          clear k7 v7 V6 O6 K6
          go_wp2_with (first | (at_builtin; refine wpList_append_lies _ rfl (.tmp 39) (.tmp 51) 23 rfl w.heap.size 44 i0 (.agg #[.int .i64 0, .int .i64 0, .int .i64 0, .int .i64 0]) 4 32 Try.underlying23 hi hz0 hz1 hz2 rfl (by decide) _ l.length ((flatI l).map (Value.int .i64)) rfl (O7.out.alloc _) ⟨w7.heap.size, 0, none⟩ 1 1 ((flatI [(t, b, R, g)]).map (Value.int .i64)) rfl rfl (news_int (W := w7) (ys := flatI [(t, b, R, g)])) (one_cells (ys := flatI [(t, b, R, g)])) (by decide) (by unfold maxLen; have := HLN.out; omega) (by have := HLN.out; omega) (by have := V7.out.size; simp only [World.size_alloc]; omega) _ rfl ?_; intro g7 cap w8 hown hgr hgb hlt2))
          have AP := Lib.hid (IOwn.app (l := l) (m := [(t, b, R, g)]) hown rfl rfl)
          have V8 := Lib.hid ((V7.out.alloc (.cells #[.int .i64 t, .int .i64 b, .int .i64 R, .int .i64 g] 44)).grown hgr (fun j hj => (O7.out.block hj).1))
          have K8 := Lib.hid ((K7.out.alloc (.cells #[.int .i64 t, .int .i64 b, .int .i64 R, .int .i64 g] 44)).grown hgr (fun j hj => by have := (O7.out.block hj).1; omega))
          clear hown hgr hgb hlt2
          go_roundw
          case rel =>
            refine ⟨l ++ [(t, b, R, g)], k - 1, M + 1 + 1 + 1 + 1, R, by congr 1; omega, by rw [List.length_append]; simp; omega, rfl, ⟨by omega, by omega⟩, by omega, AP, Lib.hid ⟨runM_snoc RN.out.1 ⟨⟨t3, by show t ≤ 2; omega⟩, ⟨b3, by show b ≤ 5; omega⟩, ⟨by show 0 ≤ R; omega, by show R ≤ 4; omega⟩, ⟨g1, g2⟩⟩ (fun q hq => by have := RN.out.2 q hq; show q.2.2.1 ≤ R; omega), fun q hq => ?_⟩, K8, V8⟩
            rcases List.mem_append.1 hq with hq | hq
            · have := RN.out.2 q hq; omega
            · rw [List.mem_singleton] at hq; subst hq; exact Int.le_refl _
          case measure => simp [intOf]; omega
        | true =>
          go_wp2_with fail
          refine (next_any m (M + 1) _ _ K.out (by omega) (by omega) (by omega)).mono ?_
          rintro e w4 ⟨x, rfl, x1, x2, k4, v4⟩
          have V4 := Lib.hid (V.out.trans v4)
          have O4 := Lib.hid (O.out.moves v4 hm)
          have K4 := Lib.hid k4
          clear k4 v4 V O K
          obtain ⟨R2, hR2⟩ : ∃ t, t = min2 (R + x) 4 := ⟨_, rfl⟩
          have hmn : ∀ w ts t, (Builtin.min_ ts t #[.int .i64 (R + x), .int .i64 4]).run Try.prog w = .ok (.int .i64 R2) w := fun w ts t => by rw [run_min2, hR2]
          have hRb : R ≤ R2 ∧ R2 ≤ 4 := by
            rw [hR2]; unfold min2; split <;> omega
          clear hR2
          go_wp2_with fail
          refine (next_any m (M + 1 + 1) _ _ K4.out (by omega) (by omega) (by omega)).mono ?_
          rintro e w5 ⟨t, rfl, t3, t4, k5, v5⟩
          have V5 := Lib.hid (V4.out.trans v5)
          have O5 := Lib.hid (O4.out.moves v5 hm)
          have K5 := Lib.hid k5
          clear k5 v5
          go_wp2_with fail
          refine (next_any m (M + 1 + 1 + 1) _ _ K5.out (by omega) (by omega) (by omega)).mono ?_
          rintro e w6 ⟨b, rfl, b3, b4, k6, v6⟩
          have V6 := Lib.hid (V5.out.trans v6)
          have O6 := Lib.hid (O5.out.moves v6 hm)
          have K6 := Lib.hid k6
          clear k6 v6 V5 O5 K5
          go_wp2_with fail
          refine (pick_any m (M + 1 + 1 + 1 + 1) (fun v => 80 ≤ v ∧ v ≤ 262) _ 4 4 _ (K6.out.alloc _) (by omega) (by omega) (by omega) (by have := K6.out.lt; omega) (by simp) (by exact new_pick _ _ _ [80, 142, 199, 262] (by decide) _ rfl)).mono ?_
          rintro e w7 ⟨g, rfl, ⟨g1, g2⟩, k7, v7⟩
          have V7 := Lib.hid ((V6.out.alloc _).trans v7)
          have O7 := Lib.hid ((O6.out.alloc _).moves v7 hm)
          have K7 := Lib.hid k7
          have HLN := Lib.hid (show l.length ≤ 1000 by omega)
          clear k7 v7 V6 O6 K6
          go_wp2_with (first | (at_builtin; refine wpList_append_lies _ rfl (.tmp 39) (.tmp 51) 23 rfl w.heap.size 44 i0 (.agg #[.int .i64 0, .int .i64 0, .int .i64 0, .int .i64 0]) 4 32 Try.underlying23 hi hz0 hz1 hz2 rfl (by decide) _ l.length ((flatI l).map (Value.int .i64)) rfl (O7.out.alloc _) ⟨w7.heap.size, 0, none⟩ 1 1 ((flatI [(t, b, R2, g)]).map (Value.int .i64)) rfl rfl (news_int (W := w7) (ys := flatI [(t, b, R2, g)])) (one_cells (ys := flatI [(t, b, R2, g)])) (by decide) (by unfold maxLen; have := HLN.out; omega) (by have := HLN.out; omega) (by have := V7.out.size; simp only [World.size_alloc]; omega) _ rfl ?_; intro g7 cap w8 hown hgr hgb hlt2))
          have AP := Lib.hid (IOwn.app (l := l) (m := [(t, b, R2, g)]) hown rfl rfl)
          have V8 := Lib.hid ((V7.out.alloc (.cells #[.int .i64 t, .int .i64 b, .int .i64 R2, .int .i64 g] 44)).grown hgr (fun j hj => (O7.out.block hj).1))
          have K8 := Lib.hid ((K7.out.alloc (.cells #[.int .i64 t, .int .i64 b, .int .i64 R2, .int .i64 g] 44)).grown hgr (fun j hj => by have := (O7.out.block hj).1; omega))
          clear hown hgr hgb hlt2
          go_roundw
          case rel =>
            refine ⟨l ++ [(t, b, R2, g)], k - 1, M + 1 + 1 + 1 + 1 + 1, R2, by congr 1; omega, by rw [List.length_append]; simp; omega, rfl, ⟨by omega, by omega⟩, by omega, AP, Lib.hid ⟨runM_snoc RN.out.1 ⟨⟨t3, by show t ≤ 2; omega⟩, ⟨b3, by show b ≤ 5; omega⟩, ⟨by show 0 ≤ R2; omega, by show R2 ≤ 4; omega⟩, ⟨g1, g2⟩⟩ (fun q hq => by have := RN.out.2 q hq; show q.2.2.1 ≤ R2; omega), fun q hq => ?_⟩, K8, V8⟩
            rcases List.mem_append.1 hq with hq | hq
            · have := RN.out.2 q hq; omega
            · rw [List.mem_singleton] at hq; subst hq; exact Int.le_refl _
          case measure => simp [intOf]; omega
end Go.Proofs.Ytpimdcljecipeaa
