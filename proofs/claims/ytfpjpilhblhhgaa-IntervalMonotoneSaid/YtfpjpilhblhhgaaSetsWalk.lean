/-
  The walk of IntervalSets: whatever the list and the number, the law returns true and leaves old memory as it was.
-/
import Derived.Test.YtfpjpilhblhhgaaLoc
set_option linter.unusedSimpArgs false
set_option linter.unusedVariables false
namespace Go.Proofs.Ytfpjpilhblhhgaa
open Go.RowKit

theorem hull_facts (a b c d : Int) (h : vld a b = true) (k : vld c d = true) : ∃ p q, hullR a b c d = (p, q, 0) ∧ cnt p q a = true ∧ cnt p q d = true ∧ (p = a ∨ p = c) ∧ (q = b ∨ q = d) := by
  obtain ⟨h1, h2, h3⟩ := vld_t h
  obtain ⟨k1, k2, k3⟩ := vld_t k
  refine ⟨_, _, two_t h k, ?_, ?_, ?_, ?_⟩
  · unfold cnt
    rw [vld_mk (by omega), Bool.true_and]
    exact decide_eq_true (by omega)
  · unfold cnt
    rw [vld_mk (by omega), Bool.true_and]
    exact decide_eq_true (by omega)
  · omega
  · omega

theorem meet_facts (a b c d : Int) (h : vld a b = true) (k : vld c d = true) : ∃ p q e, meetR a b c d = (p, q, e) ∧
    (((e == 0) = false ∧ ∀ v, (cnt a b v && cnt c d v) = false) ∨ ((e == 0) = true ∧ ∀ v, cnt p q v = (cnt a b v && cnt c d v))) := by
  obtain ⟨h1, h2, h3⟩ := vld_t h
  obtain ⟨k1, k2, k3⟩ := vld_t k
  refine ⟨(meetR a b c d).1, (meetR a b c d).2.1, (meetR a b c d).2.2, rfl, ?_⟩
  unfold meetR
  rw [two_t h k]
  by_cases g : (if d < b then d else b) < (if a < c then c else a)
  · rw [if_pos g]
    refine Or.inl ⟨rfl, fun v => ?_⟩
    unfold cnt
    rw [h, k, Bool.true_and, Bool.true_and, ← Bool.decide_and]
    exact decide_eq_false (by omega)
  · rw [if_neg g]
    refine Or.inr ⟨rfl, fun v => ?_⟩
    show cnt (if a < c then c else a) (if d < b then d else b) v = _
    unfold cnt
    rw [h, k, vld_mk (by omega), Bool.true_and, Bool.true_and, Bool.true_and, ← Bool.decide_and]
    exact decide_eq_decide.2 (by omega)


theorem meet_ok (a b c d p q e : Int) (w : World) (h : meetR a b c d = (p, q, e)) :
    Calls Try.prog 31 #[ivl a b, ivl c d] w fun r w' => r = .returned (.tuple #[ivl p q, .int .i64 e]) ∧ Below w.heap.size w w' := by
  have g := meet_any a b c d w; rw [h] at g; exact g
theorem hull_ok (a b c d p q e : Int) (w : World) (h : hullR a b c d = (p, q, e)) :
    Calls Try.prog 30 #[ivl a b, ivl c d] w fun r w' => r = .returned (.tuple #[ivl p q, .int .i64 e]) ∧ Below w.heap.size w w' := by
  have g := hull_any a b c d w; rw [h] at g; exact g

theorem keep4 {m x y : Nat} {a b c d : Int} {W w' : World} (k : Moves m W.drew w') (X : Loc W x a b) (Y : Loc W y c d) (hx : x ≠ m) (hy : y ≠ m) :
    w'.cell? ⟨x, 0, none⟩ = some (.int .i64 a) ∧ w'.cell? ⟨x, 1, none⟩ = some (.int .i64 b) ∧ w'.cell? ⟨y, 0, none⟩ = some (.int .i64 c) ∧ w'.cell? ⟨y, 1, none⟩ = some (.int .i64 d) := by
  have X' := X.drew.moves k hx
  have Y' := Y.drew.moves k hy
  exact ⟨X'.c0, X'.c1, Y'.c0, Y'.c1⟩

set_option maxRecDepth 100000 in
set_option maxHeartbeats 4000000 in
theorem sets_walk (t : Option Addr) (len cap : Nat) (zs : List Int) (n : Int) (w : World) (h : IsRow .i64 w t len cap zs) :
    Calls Try.prog 9 #[.slice t len cap, .int .i64 n] w fun e w' => e = .returned (.bool true) ∧ Below w.heap.size w w' := by
  have hR := fun T => Rnd.new (T := T) h
  have HR := Lib.hid hR
  clear hR h
  go_enter Try.func9, Try.ntmps9
  go_wp2_with fail
  refine (new_any _ _ _ _).mono ?_
  rintro e w1 ⟨rfl, rfl⟩
  go_wp2_with fail
  go_loopw [6] (fun i wr => ∃ k : Nat, k ≤ 5 ∧ i = .int .i64 k ∧ Rnd w wr (10 * k)) (fun i _ => 5 - (intOf i).toNat)
  case atStart => exact ⟨0, by omega, rfl, HR.out _⟩
  case round =>
    obtain ⟨k, hk, rfl, R0⟩ := hrel
    by_cases hlt : k < 5
    · go_wp2_with fail
      refine (mvalid_any _ _ _ R0.mkr (by omega)).mono ?_
      rintro e wa ⟨a, b, rfl, ⟨a1, a2, a3, a4⟩, k1, k2⟩
      have R1 := R0.step k2 k1
      clear R0 k1 k2
      go_wp2_with fail
      refine (mvalid_any _ _ _ R1.mkr (by omega)).mono ?_
      rintro e wb ⟨c, d, rfl, ⟨c1, c2, c3, c4⟩, k1, k2⟩
      have R2 := R1.step k2 k1
      clear R1 k1 k2
      obtain ⟨mp, mq, me, MF, MG⟩ := meet_facts a b c d (vld_mk (by omega)) (vld_mk (by omega))
      obtain ⟨hp, hq, HF, hb1, hb2, hb3, hb4⟩ := hull_facts a b c d (vld_mk (by omega)) (vld_mk (by omega))
      have MF' := Lib.hid MF
      have MG' := Lib.hid MG
      have HF' := Lib.hid HF
      clear MF MG HF
      go_wp2_with fail
      refine (meet_ok _ _ _ _ mp mq me _ MF'.out).mono ?_
      rintro e w3 ⟨rfl, kb⟩
      have R3 := ((R2.alloc _).alloc _).below kb
      have X3 : Loc w3 wb.heap.size a b := ((Loc.new _ rfl).alloc _).below kb
      have Y3 : Loc w3 (wb.heap.size + 1) c d := (Loc.new _ (by simp)).below kb
      have hg : w.heap.size < wb.heap.size := R2.lt
      clear kb R2
      obtain ⟨x0, x1, xl⟩ := X3
      obtain ⟨y0, y1, yl⟩ := Y3
      go_wp2_with fail
      refine (hull_ok _ _ _ _ hp hq 0 _ HF'.out).mono ?_
      rintro e wd ⟨rfl, kb⟩
      have R4 := (R3.alloc _).below kb
      have X4 : Loc wd wb.heap.size a b := (Loc.alloc ⟨x0, x1, xl⟩ _).below kb
      have Y4 : Loc wd (wb.heap.size + 1) c d := (Loc.alloc ⟨y0, y1, yl⟩ _).below kb
      have M4 : Loc wd w3.heap.size mp mq := (Loc.new _ rfl).below kb
      have hg2 : wb.heap.size + 1 < w3.heap.size := yl
      clear kb R3 x0 x1 xl y0 y1 yl
      obtain ⟨x0, x1, xl⟩ := X4
      obtain ⟨y0, y1, yl⟩ := Y4
      have P : (hp != a) = false ∨ (hp != a) = true ∧ (hp != c) = false := by
        by_cases g : hp = a
        · exact Or.inl (by simp [g])
        · exact Or.inr ⟨by simp [g], by simpa using hb3.resolve_left g⟩
      have Q : (hq != b) = false ∨ (hq != b) = true ∧ (hq != d) = false := by
        by_cases g : hq = b
        · exact Or.inl (by simp [g])
        · exact Or.inr ⟨by simp [g], by simpa using hb4.resolve_left g⟩
      clear hb3 hb4
      go_upto_region 8 with fail
      go_cut [81] (fun t wx => t = .bool false ∧ Rnd w wx (10 * k + 4) ∧ Loc wx wb.heap.size a b ∧ Loc wx (wb.heap.size + 1) c d ∧ Loc wx w3.heap.size mp mq)
      case first =>
        go_wp2_with fail
        refine (contains_any hp hq a _).mono ?_
        rintro e we ⟨rfl, kb⟩
        rw [hb1]
        have R5 := (R4.alloc _).below kb
        have X5 : Loc we wb.heap.size a b := (Loc.alloc ⟨x0, x1, xl⟩ _).below kb
        have Y5 : Loc we (wb.heap.size + 1) c d := (Loc.alloc ⟨y0, y1, yl⟩ _).below kb
        have M5 : Loc we w3.heap.size mp mq := (M4.alloc _).below kb
        have H5 : Loc we wd.heap.size hp hq := (Loc.new _ rfl).below kb
        clear kb R4 x0 x1 xl y0 y1 yl M4
        obtain ⟨x0, x1, xl⟩ := X5
        obtain ⟨y0, y1, yl⟩ := Y5
        obtain ⟨h0, h1, hl⟩ := H5
        go_wp2_with fail
        refine (contains_any hp hq d _).mono ?_
        rintro e wf ⟨rfl, kb⟩
        rw [hb2]
        have R6 := R5.below kb
        have X6 : Loc wf wb.heap.size a b := Loc.below ⟨x0, x1, xl⟩ kb
        have Y6 : Loc wf (wb.heap.size + 1) c d := Loc.below ⟨y0, y1, yl⟩ kb
        have M6 : Loc wf w3.heap.size mp mq := M5.below kb
        have H6 : Loc wf wd.heap.size hp hq := Loc.below ⟨h0, h1, hl⟩ kb
        clear kb R5 x0 x1 xl y0 y1 yl M5 h0 h1 hl hb1 hb2
        obtain ⟨x0, x1, xl⟩ := X6
        obtain ⟨y0, y1, yl⟩ := Y6
        obtain ⟨h0, h1, hl⟩ := H6
        rcases P with P | ⟨P, P'⟩ <;> rcases Q with Q | ⟨Q, Q'⟩
        all_goals
          go_wp2_with fail
          go_meet
          case rel => exact ⟨rfl, R6.more (by omega), ⟨x0, x1, xl⟩, ⟨y0, y1, yl⟩, M6⟩
      case rest =>
        obtain ⟨rfl, R5, X5, Y5, M5⟩ := hcut
        clear R4 x0 x1 xl y0 y1 yl M4 P Q hb1 hb2
        obtain ⟨x0, x1, xl⟩ := X5
        obtain ⟨y0, y1, yl⟩ := Y5
        go_wp2_with fail
        have XX : Loc wc wb.heap.size a b := ⟨x0, x1, xl⟩
        have YY : Loc wc (wb.heap.size + 1) c d := ⟨y0, y1, yl⟩
        have nx : wb.heap.size ≠ w.heap.size := by omega
        have ny : wb.heap.size + 1 ≠ w.heap.size := by omega
        have nm : w3.heap.size ≠ w.heap.size := by omega
        go_region_held3 (fun w' => w'.cell? ⟨wb.heap.size, 0, none⟩ = some (.int .i64 a) ∧ w'.cell? ⟨wb.heap.size, 1, none⟩ = some (.int .i64 b) ∧ w'.cell? ⟨wb.heap.size + 1, 0, none⟩ = some (.int .i64 c) ∧ w'.cell? ⟨wb.heap.size + 1, 1, none⟩ = some (.int .i64 d))
          (first | exact keep4 k2 XX YY nx ny | go_keep)
          ((go_at_call 20; refine (from_any _ _ _ _ _ R5.mkr.drew (by omega) (by omega) (by omega) (by omega)).mono ?_; rintro e wg ⟨v, rfl, v1, v2, k1, k2⟩))
        have R6 := R5.drew.step k2 k1
        have X6 := XX.drew.moves k2 nx
        have Y6 := YY.drew.moves k2 ny
        have M6 := M5.drew.moves k2 nm
        clear R5 XX YY M5 k1 k2 x0 x1 xl y0 y1 yl
        go_wp2_with fail
        go_loopw [96] (fun i wr => ∃ j : Nat, j ≤ 6 ∧ i = .int .i64 j ∧ Rnd w wr (10 * k + 10) ∧ Loc wr wb.heap.size a b ∧ Loc wr (wb.heap.size + 1) c d ∧ Loc wr w3.heap.size mp mq ∧ Lst wr wg.heap.size 6) (fun i _ => 6 - (intOf i).toNat)
        case atStart => exact ⟨0, by omega, rfl, (R6.alloc _).more (by omega), X6.alloc _, Y6.alloc _, M6.alloc _, Lst.new (zs := [n.tmod 100, a, b, c, d, v]) _ rfl⟩
        case round =>
          obtain ⟨j, hj, rfl, R7, X7, Y7, M7, L7⟩ := hrel
          clear R6 X6 Y6 M6
          by_cases hlt2 : j < 6
          · obtain ⟨u, hu⟩ := L7.cs j hlt2
            have lg := L7.lt
            cases g1 : cnt a b u
            · rcases MG'.out with ⟨e0, hv⟩ | ⟨e0, hv⟩
              · have hu' := hv u
                clear hv
                clear hu'
                obtain ⟨x0, x1, xl⟩ := X7
                have X7 : Loc _ _ _ _ := ⟨x0, x1, xl⟩
                go_wp2_with fail
                refine (contains_any a b u _).mono ?_
                rintro e wh8 ⟨rfl, kb⟩
                rw [g1]
                have R8 := R7.below kb
                have X8 := X7.below kb
                have Y8 := Y7.below kb
                have M8 := M7.below kb
                have L8 := L7.below kb
                clear kb R7 X7 Y7 M7 L7
                clear x0 x1 xl hu lg
                go_wp2_with fail
                go_roundw
                case rel => exact ⟨j + 1, by omega, by go_num, R8, X8, Y8, M8, L8⟩
                case measure => simp [intOf]; omega
              · have hu' := hv u
                clear hv
                rw [g1] at hu'
                have g3 : cnt mp mq u = false := by rw [hu']; rfl
                clear hu'
                obtain ⟨x0, x1, xl⟩ := X7
                have X7 : Loc _ _ _ _ := ⟨x0, x1, xl⟩
                go_wp2_with fail
                refine (contains_any a b u _).mono ?_
                rintro e wh8 ⟨rfl, kb⟩
                rw [g1]
                have R8 := R7.below kb
                have X8 := X7.below kb
                have Y8 := Y7.below kb
                have M8 := M7.below kb
                have L8 := L7.below kb
                clear kb R7 X7 Y7 M7 L7
                clear x0 x1 xl hu lg
                obtain ⟨m0, m1, ml⟩ := M8
                have M8 : Loc _ _ _ _ := ⟨m0, m1, ml⟩
                go_wp2_with fail
                refine (contains_any mp mq u _).mono ?_
                rintro e wh9 ⟨rfl, kb⟩
                rw [g3]
                have R9 := R8.below kb
                have X9 := X8.below kb
                have Y9 := Y8.below kb
                have M9 := M8.below kb
                have L9 := L8.below kb
                clear kb R8 X8 Y8 M8 L8
                clear m0 m1 ml
                go_wp2_with fail
                go_roundw
                case rel => exact ⟨j + 1, by omega, by go_num, R9, X9, Y9, M9, L9⟩
                case measure => simp [intOf]; omega
            · cases g2 : cnt c d u
              · rcases MG'.out with ⟨e0, hv⟩ | ⟨e0, hv⟩
                · have hu' := hv u
                  clear hv
                  clear hu'
                  obtain ⟨x0, x1, xl⟩ := X7
                  have X7 : Loc _ _ _ _ := ⟨x0, x1, xl⟩
                  go_wp2_with fail
                  refine (contains_any a b u _).mono ?_
                  rintro e wh8 ⟨rfl, kb⟩
                  rw [g1]
                  have R8 := R7.below kb
                  have X8 := X7.below kb
                  have Y8 := Y7.below kb
                  have M8 := M7.below kb
                  have L8 := L7.below kb
                  clear kb R7 X7 Y7 M7 L7
                  clear x0 x1 xl hu lg
                  obtain ⟨y0, y1, yl⟩ := Y8
                  have Y8 : Loc _ _ _ _ := ⟨y0, y1, yl⟩
                  go_wp2_with fail
                  refine (contains_any c d u _).mono ?_
                  rintro e wh9 ⟨rfl, kb⟩
                  rw [g2]
                  have R9 := R8.below kb
                  have X9 := X8.below kb
                  have Y9 := Y8.below kb
                  have M9 := M8.below kb
                  have L9 := L8.below kb
                  clear kb R8 X8 Y8 M8 L8
                  clear y0 y1 yl
                  go_wp2_with fail
                  go_roundw
                  case rel => exact ⟨j + 1, by omega, by go_num, R9, X9, Y9, M9, L9⟩
                  case measure => simp [intOf]; omega
                · have hu' := hv u
                  clear hv
                  rw [g1, g2] at hu'
                  have g3 : cnt mp mq u = false := by rw [hu']; rfl
                  clear hu'
                  obtain ⟨x0, x1, xl⟩ := X7
                  have X7 : Loc _ _ _ _ := ⟨x0, x1, xl⟩
                  go_wp2_with fail
                  refine (contains_any a b u _).mono ?_
                  rintro e wh8 ⟨rfl, kb⟩
                  rw [g1]
                  have R8 := R7.below kb
                  have X8 := X7.below kb
                  have Y8 := Y7.below kb
                  have M8 := M7.below kb
                  have L8 := L7.below kb
                  clear kb R7 X7 Y7 M7 L7
                  clear x0 x1 xl hu lg
                  obtain ⟨y0, y1, yl⟩ := Y8
                  have Y8 : Loc _ _ _ _ := ⟨y0, y1, yl⟩
                  go_wp2_with fail
                  refine (contains_any c d u _).mono ?_
                  rintro e wh9 ⟨rfl, kb⟩
                  rw [g2]
                  have R9 := R8.below kb
                  have X9 := X8.below kb
                  have Y9 := Y8.below kb
                  have M9 := M8.below kb
                  have L9 := L8.below kb
                  clear kb R8 X8 Y8 M8 L8
                  clear y0 y1 yl
                  obtain ⟨m0, m1, ml⟩ := M9
                  have M9 : Loc _ _ _ _ := ⟨m0, m1, ml⟩
                  go_wp2_with fail
                  refine (contains_any mp mq u _).mono ?_
                  rintro e wh10 ⟨rfl, kb⟩
                  rw [g3]
                  have R10 := R9.below kb
                  have X10 := X9.below kb
                  have Y10 := Y9.below kb
                  have M10 := M9.below kb
                  have L10 := L9.below kb
                  clear kb R9 X9 Y9 M9 L9
                  clear m0 m1 ml
                  go_wp2_with fail
                  go_roundw
                  case rel => exact ⟨j + 1, by omega, by go_num, R10, X10, Y10, M10, L10⟩
                  case measure => simp [intOf]; omega
              · rcases MG'.out with ⟨e0, hv⟩ | ⟨e0, hv⟩
                · have hu' := hv u
                  clear hv
                  rw [g1, g2] at hu'
                  cases hu'
                · have hu' := hv u
                  clear hv
                  rw [g1, g2] at hu'
                  have g3 : cnt mp mq u = true := by rw [hu']; rfl
                  clear hu'
                  obtain ⟨x0, x1, xl⟩ := X7
                  have X7 : Loc _ _ _ _ := ⟨x0, x1, xl⟩
                  go_wp2_with fail
                  refine (contains_any a b u _).mono ?_
                  rintro e wh8 ⟨rfl, kb⟩
                  rw [g1]
                  have R8 := R7.below kb
                  have X8 := X7.below kb
                  have Y8 := Y7.below kb
                  have M8 := M7.below kb
                  have L8 := L7.below kb
                  clear kb R7 X7 Y7 M7 L7
                  clear x0 x1 xl hu lg
                  obtain ⟨y0, y1, yl⟩ := Y8
                  have Y8 : Loc _ _ _ _ := ⟨y0, y1, yl⟩
                  go_wp2_with fail
                  refine (contains_any c d u _).mono ?_
                  rintro e wh9 ⟨rfl, kb⟩
                  rw [g2]
                  have R9 := R8.below kb
                  have X9 := X8.below kb
                  have Y9 := Y8.below kb
                  have M9 := M8.below kb
                  have L9 := L8.below kb
                  clear kb R8 X8 Y8 M8 L8
                  clear y0 y1 yl
                  obtain ⟨m0, m1, ml⟩ := M9
                  have M9 : Loc _ _ _ _ := ⟨m0, m1, ml⟩
                  go_wp2_with fail
                  refine (contains_any mp mq u _).mono ?_
                  rintro e wh10 ⟨rfl, kb⟩
                  rw [g3]
                  have R10 := R9.below kb
                  have X10 := X9.below kb
                  have Y10 := Y9.below kb
                  have M10 := M9.below kb
                  have L10 := L9.below kb
                  clear kb R9 X9 Y9 M9 L9
                  clear m0 m1 ml
                  go_wp2_with fail
                  go_roundw
                  case rel => exact ⟨j + 1, by omega, by go_num, R10, X10, Y10, M10, L10⟩
                  case measure => simp [intOf]; omega
          · go_wp2_with fail
            go_roundw
            case rel => exact ⟨k + 1, by omega, by go_num, R7.more (by omega)⟩
            case measure => simp [intOf]; omega
    · go_wp2_with fail
      refine (sane_any _).mono ?_
      rintro e w2 ⟨rfl, kb⟩
      have R1 := R0.below kb
      go_wp2_with fail
      go_ret
      exact ⟨rfl, R1.bel⟩
end Go.Proofs.Ytfpjpilhblhhgaa
