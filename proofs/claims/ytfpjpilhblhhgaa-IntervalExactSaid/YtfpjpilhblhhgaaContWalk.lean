/-
  The walk of IntervalContains: whatever the list, the law returns true and leaves old memory as it was.
-/
import Derived.Test.YtfpjpilhblhhgaaContMath
set_option linter.unusedSimpArgs false
set_option linter.unusedVariables false
namespace Go.Proofs.Ytfpjpilhblhhgaa
open Go.RowKit

theorem add_eq (a b c d p q e : Int) (w : World) (h : addR a b c d = (p, q, e)) :
    Calls Try.prog 21 #[ivl a b, ivl c d] w fun r w' => r = .returned (.tuple #[ivl p q, .int .i64 e]) ∧ Below w.heap.size w w' := by
  have g := add_any a b c d w; rw [h] at g; exact g
theorem sub_eq (a b c d p q e : Int) (w : World) (h : subR a b c d = (p, q, e)) :
    Calls Try.prog 22 #[ivl a b, ivl c d] w fun r w' => r = .returned (.tuple #[ivl p q, .int .i64 e]) ∧ Below w.heap.size w w' := by
  have g := sub_any a b c d w; rw [h] at g; exact g
theorem mul_eq (a b c d p q e : Int) (w : World) (h : mulR a b c d = (p, q, e)) :
    Calls Try.prog 23 #[ivl a b, ivl c d] w fun r w' => r = .returned (.tuple #[ivl p q, .int .i64 e]) ∧ Below w.heap.size w w' := by
  have g := mul_any a b c d w; rw [h] at g; exact g
theorem scale_eq (a b n d p q e : Int) (w : World) (h : scaleR a b n d = (p, q, e)) :
    Calls Try.prog 25 #[ivl a b, .int .i64 n, .int .i64 d] w fun r w' => r = .returned (.tuple #[ivl p q, .int .i64 e]) ∧ Below w.heap.size w w' := by
  have g := scale_any a b n d w; rw [h] at g; exact g
theorem root_eq (a b p q e : Int) (w : World) (h : rootR a b = (p, q, e)) :
    Calls Try.prog 28 #[ivl a b] w fun r w' => r = .returned (.tuple #[ivl p q, .int .i64 e]) ∧ Below w.heap.size w w' := by
  have g := root_any a b w; rw [h] at g; exact g

/-- The cells of two structs behind one call of the maker, and behind two. -/
theorem keepA {m x y : Nat} {a b c d : Int} {W w' : World} (k : Moves m W.drew w') (X : Loc W x a b) (Y : Loc W y c d) (hx : x ≠ m) (hy : y ≠ m) :
    w'.cell? ⟨x, 0, none⟩ = some (.int .i64 a) ∧ w'.cell? ⟨x, 1, none⟩ = some (.int .i64 b) ∧ w'.cell? ⟨y, 0, none⟩ = some (.int .i64 c) ∧ w'.cell? ⟨y, 1, none⟩ = some (.int .i64 d) := by
  have X' := X.drew.moves k hx
  have Y' := Y.drew.moves k hy
  exact ⟨X'.c0, X'.c1, Y'.c0, Y'.c1⟩
theorem keepB {m x y : Nat} {a b c d : Int} {W w1 w' : World} (k : Moves m W.drew w1) (l : Moves m w1 w') (X : Loc W x a b) (Y : Loc W y c d) (hx : x ≠ m) (hy : y ≠ m) :
    w'.cell? ⟨x, 0, none⟩ = some (.int .i64 a) ∧ w'.cell? ⟨x, 1, none⟩ = some (.int .i64 b) ∧ w'.cell? ⟨y, 0, none⟩ = some (.int .i64 c) ∧ w'.cell? ⟨y, 1, none⟩ = some (.int .i64 d) :=
  keepA (k.trans l) X Y hx hy

theorem locS {w : World} {b : Nat} {lo hi : Int} (h : Loc w b lo hi) : w.cell? ⟨b, 0, none⟩ = some (.int .i64 lo) ∧ w.cell? ⟨b, 1, none⟩ = some (.int .i64 hi) := ⟨h.c0, h.c1⟩

set_option maxRecDepth 100000 in
set_option maxHeartbeats 4000000 in
theorem cont_walk (t : Option Addr) (len cap : Nat) (zs : List Int) (w : World) (h : IsRow .i64 w t len cap zs) :
    Calls Try.prog 5 #[.slice t len cap] w fun e w' => e = .returned (.bool true) ∧ Below w.heap.size w w' := by
  have hR := fun T => Rnd.new (T := T) h
  have HR := Lib.hid hR
  clear hR h
  go_enter Try.func5, Try.ntmps5
  go_wp2_with fail
  refine (new_any _ _ _ _).mono ?_
  rintro e w1 ⟨rfl, rfl⟩
  go_wp2_with fail
  go_loopw [4] (fun i wr => ∃ k : Nat, k ≤ 5 ∧ i = .int .i64 k ∧ Rnd w wr (10 * k)) (fun i _ => 5 - (intOf i).toNat)
  case atStart => exact ⟨0, by omega, rfl, HR.out _⟩
  case round =>
    obtain ⟨k, hk, rfl, R0⟩ := hrel
    by_cases hlt : k < 5
    · go_wp2_with fail
      refine (mvalid_any _ _ _ R0.mkr (by omega)).mono ?_
      rintro e wa ⟨a, b, rfl, ⟨a1, a2, a3, a4⟩, k1, k2⟩
      have R1 := R0.step k2 k1
      clear R0 k1 k2
      go_wp2_with fail
      refine (mvalid_any _ _ _ R1.mkr (by omega)).mono ?_
      rintro e wb ⟨c, d, rfl, ⟨c1, c2, c3, c4⟩, k1, k2⟩
      have R2 := R1.step k2 k1
      clear R1 k1 k2
      have V1 : vld a b = true := vld_mk (by omega)
      have V2 : vld c d = true := vld_mk (by omega)
      have HA := Lib.hid (add_facts a b c d V1 V2 (by omega) (by omega) (by omega) (by omega))
      have HS := Lib.hid (sub_facts a b c d V1 V2 (by omega) (by omega) (by omega) (by omega))
      obtain ⟨HM, ml, mh⟩ := mul_facts a b c d V1 V2 (by omega) (by omega) (by omega) (by omega)
      have HM' := Lib.hid HM
      have HV := Lib.hid V1
      clear HM V1 V2
      generalize hp1 : min4 (a * c) (a * d) (b * c) (b * d) = mp at *
      generalize hp2 : max4 (a * c) (a * d) (b * c) (b * d) = mq at *
      have HP1 := Lib.hid hp1
      have HP2 := Lib.hid hp2
      clear hp1 hp2
      have hg : w.heap.size < wb.heap.size := R2.lt
      have nx : wb.heap.size ≠ w.heap.size := by omega
      have ny : wb.heap.size + 1 ≠ w.heap.size := by omega
      go_upto_region 6 with fail
      go_cut [7, 8] (fun s7 s8 wx => ∃ n m : Int, s7 = .int .i64 n ∧ s8 = .int .i64 m ∧ a ≤ n ∧ n ≤ b ∧ c ≤ m ∧ m ≤ d ∧ Rnd w wx (10 * k + 6) ∧ Loc wx wb.heap.size a b ∧ Loc wx (wb.heap.size + 1) c d)
      case first =>
        have R3 := (R2.alloc (.cells #[.int .i64 a, .int .i64 b] 24)).alloc (.cells #[.int .i64 c, .int .i64 d] 24)
        have XX : Loc ((wb.alloc (.cells #[.int .i64 a, .int .i64 b] 24)).alloc (.cells #[.int .i64 c, .int .i64 d] 24)) wb.heap.size a b := (Loc.new _ rfl).alloc _
        have YY : Loc ((wb.alloc (.cells #[.int .i64 a, .int .i64 b] 24)).alloc (.cells #[.int .i64 c, .int .i64 d] 24)) (wb.heap.size + 1) c d := Loc.new _ (by simp)
        generalize ((wb.alloc (.cells #[.int .i64 a, .int .i64 b] 24)).alloc (.cells #[.int .i64 c, .int .i64 d] 24)) = wq at *
        obtain ⟨x0, x1, xl⟩ := XX
        obtain ⟨y0, y1, yl⟩ := YY
        have XX : Loc wq wb.heap.size a b := ⟨x0, x1, xl⟩
        have YY : Loc wq (wb.heap.size + 1) c d := ⟨y0, y1, yl⟩
        go_region_held3 (fun w' => w'.cell? ⟨wb.heap.size, 0, none⟩ = some (.int .i64 a) ∧ w'.cell? ⟨wb.heap.size, 1, none⟩ = some (.int .i64 b) ∧ w'.cell? ⟨wb.heap.size + 1, 0, none⟩ = some (.int .i64 c) ∧ w'.cell? ⟨wb.heap.size + 1, 1, none⟩ = some (.int .i64 d))
          (first | exact keepB k2 k4 XX YY nx ny | exact keepA k2 XX YY nx ny | go_keep)
          (first
            | (go_at_call 20; refine (from_any _ _ _ _ _ k1 (by omega) (by omega) (by omega) (by omega)).mono ?_; rintro e wh ⟨m, rfl, m1, m2, k3, k4⟩)
            | (go_at_call 20; refine (from_any _ _ _ _ _ R3.mkr.drew (by omega) (by omega) (by omega) (by omega)).mono ?_; rintro e wg ⟨n, rfl, n1, n2, k1, k2⟩))
        all_goals
          go_wp2_with fail
          go_meet
          case rel => exact ⟨n, m, rfl, rfl, n1, n2, m1, m2, (R3.drew.step (k2.trans k4) k3).more (by omega), (XX.drew.moves k2 nx).moves k4 nx, (YY.drew.moves k2 ny).moves k4 ny⟩
      case rest =>
        obtain ⟨n, m, rfl, rfl, n1, n2, m1, m2, R3, X3, Y3⟩ := hcut
        clear R2
        obtain ⟨x0, x1, xl⟩ := X3
        obtain ⟨y0, y1, yl⟩ := Y3
        go_wp2_with fail
        refine (add_eq _ _ _ _ (a + c) (b + d) 0 _ HA.out).mono ?_
        rintro e w3 ⟨rfl, kb⟩
        have R4 := R3.below kb
        have X4 : Loc w3 wb.heap.size a b := Loc.below ⟨x0, x1, xl⟩ kb
        have Y4 : Loc w3 (wb.heap.size + 1) c d := Loc.below ⟨y0, y1, yl⟩ kb
        clear kb R3 x0 x1 xl y0 y1 yl
        obtain ⟨x0, x1, xl⟩ := X4
        obtain ⟨y0, y1, yl⟩ := Y4
        go_wp2_with fail
        refine (sub_eq _ _ _ _ (a - d) (b - c) 0 _ HS.out).mono ?_
        rintro e w4 ⟨rfl, kb⟩
        have R5 := (R4.alloc _).below kb
        have X5 : Loc w4 wb.heap.size a b := (Loc.alloc ⟨x0, x1, xl⟩ _).below kb
        have Y5 : Loc w4 (wb.heap.size + 1) c d := (Loc.alloc ⟨y0, y1, yl⟩ _).below kb
        have A5 : Loc w4 w3.heap.size (a + c) (b + d) := (Loc.new _ rfl).below kb
        clear kb R4 x0 x1 xl y0 y1 yl
        obtain ⟨x0, x1, xl⟩ := X5
        obtain ⟨y0, y1, yl⟩ := Y5
        go_wp2_with fail
        refine (mul_eq _ _ _ _ mp mq 0 _ HM'.out).mono ?_
        rintro e w5 ⟨rfl, kb⟩
        have R6 := (R5.alloc _).below kb
        have X6 : Loc w5 wb.heap.size a b := (Loc.alloc ⟨x0, x1, xl⟩ _).below kb
        have A6 : Loc w5 w3.heap.size (a + c) (b + d) := (A5.alloc _).below kb
        have S6 : Loc w5 w4.heap.size (a - d) (b - c) := (Loc.new _ rfl).below kb
        clear kb R5 x0 x1 xl y0 y1 yl A5
        obtain ⟨x0, x1, xl⟩ := A6
        have q0 := mul_small (x := n) (y := m) (by omega) (by omega) (by omega) (by omega)
        obtain ⟨q1, q2⟩ := q0
        have qb := mul_between a b c d n m n1 n2 m1 m2
        rw [HP1.out, HP2.out] at qb
        obtain ⟨q3, q4⟩ := qb
        have hc1 : cnt (a + c) (b + d) (n + m) = true := cnt_mk (by omega) (by omega) (by omega) (by omega)
        have hc2 : cnt (a - d) (b - c) (n - m) = true := cnt_mk (by omega) (by omega) (by omega) (by omega)
        have hc3 : cnt mp mq (n * m) = true := cnt_mk (by omega) (by omega) (by omega) (by omega)
        go_wp2_with fail
        refine (contains_any _ _ _ _).mono ?_
        rintro e w6 ⟨rfl, kb⟩
        rw [hc1]
        have R7 := (R6.alloc _).below kb
        have X7 : Loc w6 wb.heap.size a b := (X6.alloc _).below kb
        have S7 : Loc w6 w4.heap.size (a - d) (b - c) := (S6.alloc _).below kb
        have M7 : Loc w6 w5.heap.size mp mq := (Loc.new _ rfl).below kb
        clear kb R6 x0 x1 xl S6 X6 hc1
        obtain ⟨x0, x1, xl⟩ := S7
        go_wp2_with fail
        refine (contains_any _ _ _ _).mono ?_
        rintro e w7 ⟨rfl, kb⟩
        rw [hc2]
        have R8 := R7.below kb
        have X8 := X7.below kb
        have M8 := M7.below kb
        clear kb R7 x0 x1 xl M7 X7 hc2
        obtain ⟨x0, x1, xl⟩ := M8
        go_wp2_with fail
        refine (contains_any _ _ _ _).mono ?_
        rintro e w8 ⟨rfl, kb⟩
        rw [hc3]
        have R9 := R8.below kb
        have X9 := X8.below kb
        clear kb R8 x0 x1 xl X8 hc3
        go_wp2_with fail
        refine (from_any _ _ _ _ _ R9.mkr (by omega) (by omega) (by omega) (by omega)).mono ?_
        rintro e w9 ⟨u, rfl, u1, u2, k1, k2⟩
        have RA := R9.step k2 k1
        have XA := X9.moves k2 nx
        clear k1 k2 R9 X9
        have ls := RA.lt
        go_wp2_with fail
        refine (pick_any _ _ (fun v => v = 1 ∨ v = 2 ∨ v = 3 ∨ v = 5 ∨ v = 7 ∨ v = -3 ∨ v = -4) _ 5 5 _ (RA.alloc _).mkr (by omega) (by omega) (by omega) (by omega) (by simp) (by exact new_pick _ _ _ [1, 2, 3, 7, -4] (by decide) _ (by simp))).mono ?_
        rintro e wA ⟨v, rfl, v1, k1, k2⟩
        have RB := (RA.alloc _).step k2 k1
        have XB := (XA.alloc _).moves k2 nx
        clear k1 k2 RA XA ls
        obtain ⟨p, q, HF, p1, p2, p3⟩ := scale_facts a b u v HV.out (by omega) (by omega) u1 u2 v1
        have HF' := Lib.hid HF
        obtain ⟨p4, p5, p6⟩ := p3 n n1 n2
        have hd1 : cnt p q (fdv (n * u) v) = true := cnt_mk (by omega) (by omega) (by omega) (by omega)
        have hd2 : cnt p q (cdv (n * u) v) = true := cnt_mk (by omega) (by omega) (by omega) (by omega)
        have v0 : v ≠ 0 := by omega
        have vm : v ≠ -1 := by omega
        have HD := Lib.hid (And.intro hd1 hd2)
        have HN := Lib.hid (And.intro v0 vm)
        clear HF p3 p4 p5 p6 v1 v0 vm hd1 hd2
        have r0 := mul_small (x := n) (y := u) (by omega) (by omega) (by omega) (by omega)
        obtain ⟨r1, r2⟩ := r0
        obtain ⟨x0, x1, xl⟩ := XB
        go_wp2_with fail
        refine (scale_eq _ _ _ _ p q 0 _ HF'.out).mono ?_
        rintro e wB ⟨rfl, kb⟩
        have RC := RB.below kb
        have XC : Loc wB wb.heap.size a b := Loc.below ⟨x0, x1, xl⟩ kb
        clear RB kb x0 x1 xl
        have ls := XC.lt
        go_upto_region 14 with fail
        go_cut [127] (fun t wx => t = .bool false ∧ Rnd w wx (10 * k + 9) ∧ Loc wx wb.heap.size a b)
        case first =>
          have RD := RC.alloc (.cells #[.int .i64 p, .int .i64 q] 24)
          have XD := XC.alloc (.cells #[.int .i64 p, .int .i64 q] 24)
          have TT : Loc (wB.alloc (.cells #[.int .i64 p, .int .i64 q] 24)) wB.heap.size p q := Loc.new _ rfl
          generalize wB.alloc (.cells #[.int .i64 p, .int .i64 q] 24) = wq at *
          obtain ⟨t0, t1, tl⟩ := TT
          have TT : Loc wq wB.heap.size p q := ⟨t0, t1, tl⟩
          clear RC XC
          have wz : IntKind.i64.wrap (n * u) = n * u := IntWalk.i64_in _ (by omega)
          go_region_held3 (fun w' => w'.cell? ⟨wB.heap.size, 0, none⟩ = some (.int .i64 p) ∧ w'.cell? ⟨wB.heap.size, 1, none⟩ = some (.int .i64 q))
            (first | exact locS ((TT.drewN.below kb1).drewN.below kb2) | exact locS (TT.drewN.below kb1) | go_keep)
            (first
              | (go_at_call 26; refine (down_any _ _ _ HN.out.1 (by omega) (by omega) (fun h => absurd h HN.out.2)).mono ?_; rintro e wx1 ⟨rfl, j1, rfl⟩)
              | (go_at_call 27; refine (up_any _ _ _ HN.out.1 (by omega) (by omega) (fun h => absurd h HN.out.2)).mono ?_; rintro e wx1 ⟨rfl, j2, rfl⟩)
              | (go_at_call 24; have _t := kb1; refine (contains_any _ _ _ _).mono ?_; rintro e wx2 ⟨rfl, kb2⟩; rw [HD.out.2])
              | (go_at_call 24; refine (contains_any _ _ _ _).mono ?_; rintro e wx2 ⟨rfl, kb1⟩; rw [HD.out.1]))
          go_wp2_with fail
          go_meet
          case rel => exact ⟨rfl, ((RD.drewN.below kb1).drewN.below kb2).more (by omega), (XD.drewN.below kb1).drewN.below kb2⟩
        case rest =>
          obtain ⟨rfl, RE, XE⟩ := hcut
          obtain ⟨x0, x1, xl⟩ := XE
          by_cases ha : 0 ≤ a
          · have HRt := Lib.hid (show rootR a b = (isq a, usq b, 0) from by unfold rootR; rw [if_pos HV.out, if_neg (by omega)])
            obtain ⟨i1, i2, i3, i4, i5, i6⟩ := isq_spec a ha (by omega)
            obtain ⟨g1, g2, g3, g4, g5⟩ := usq_spec b (by omega) (by omega)
            clear g5 i5 i6 q1 q2 q3 q4 r1 r2 ml mh c1 c2 c3 c4 m1 m2 u1 u2 p1 p2 ls
            go_wp2_with fail
            refine (root_eq _ _ (isq a) (usq b) 0 _ HRt.out).mono ?_
            rintro e wE ⟨rfl, kb⟩
            have RF := RE.below kb
            clear RE kb x0 x1 xl
            go_wp2_with fail
            go_roundw
            case rel => exact ⟨k + 1, by omega, by go_num, (RF.alloc _).more (by omega)⟩
            case measure => simp [intOf]; omega
          · go_wp2_with fail
            go_roundw
            case rel => exact ⟨k + 1, by omega, by go_num, RE.more (by omega)⟩
            case measure => simp [intOf]; omega
    · go_wp2_with fail
      refine (sane_any _).mono ?_
      rintro e w2 ⟨rfl, kb⟩
      have R1 := R0.below kb
      go_wp2_with fail
      go_ret
      exact ⟨rfl, R1.bel⟩
end Go.Proofs.Ytfpjpilhblhhgaa
