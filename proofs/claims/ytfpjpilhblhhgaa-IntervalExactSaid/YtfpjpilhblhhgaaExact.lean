/-
  The function that compares the program with the reference: it returns true for whatever intervals and numbers.
-/
import Derived.Test.YtfpjpilhblhhgaaMonoWalk
import Derived.Test.YtfpjpilhblhhgaaRmul2
import Derived.Test.YtfpjpilhblhhgaaRscale
set_option linter.unusedSimpArgs false
set_option linter.unusedVariables false
namespace Go.Proofs.Ytfpjpilhblhhgaa
open Go.RowKit

theorem ex3 (t : Int × Int × Int) : ∃ p q e, t = (p, q, e) := ⟨_, _, _, rfl⟩
theorem add_x (a b c d p q e : Int) (w : World) (h : addR a b c d = (p, q, e)) :
    Calls Try.prog 21 #[ivl a b, ivl c d] w fun r w' => r = .returned (.tuple #[ivl p q, .int .i64 e]) ∧ Below w.heap.size w w' := by
  have g := add_any a b c d w; rw [h] at g; exact g
theorem add_y (a b c d p q e : Int) (w : World) (h : addR a b c d = (p, q, e)) :
    Calls Try.prog 32 #[ivl a b, ivl c d] w fun r w' => r = .returned (.tuple #[ivl p q, .int .i64 e]) ∧ Below w.heap.size w w' := by
  have g := radd_any a b c d w; rw [h] at g; exact g
theorem sub_x (a b c d p q e : Int) (w : World) (h : subR a b c d = (p, q, e)) :
    Calls Try.prog 22 #[ivl a b, ivl c d] w fun r w' => r = .returned (.tuple #[ivl p q, .int .i64 e]) ∧ Below w.heap.size w w' := by
  have g := sub_any a b c d w; rw [h] at g; exact g
theorem sub_y (a b c d p q e : Int) (w : World) (h : subR a b c d = (p, q, e)) :
    Calls Try.prog 37 #[ivl a b, ivl c d] w fun r w' => r = .returned (.tuple #[ivl p q, .int .i64 e]) ∧ Below w.heap.size w w' := by
  have g := rsub_any a b c d w; rw [h] at g; exact g
theorem hull_x (a b c d p q e : Int) (w : World) (h : hullR a b c d = (p, q, e)) :
    Calls Try.prog 30 #[ivl a b, ivl c d] w fun r w' => r = .returned (.tuple #[ivl p q, .int .i64 e]) ∧ Below w.heap.size w w' := by
  have g := hull_any a b c d w; rw [h] at g; exact g
theorem hull_y (a b c d p q e : Int) (w : World) (h : hullR a b c d = (p, q, e)) :
    Calls Try.prog 41 #[ivl a b, ivl c d] w fun r w' => r = .returned (.tuple #[ivl p q, .int .i64 e]) ∧ Below w.heap.size w w' := by
  have g := rhull_any a b c d w; rw [h] at g; exact g
theorem meet_x (a b c d p q e : Int) (w : World) (h : meetR a b c d = (p, q, e)) :
    Calls Try.prog 31 #[ivl a b, ivl c d] w fun r w' => r = .returned (.tuple #[ivl p q, .int .i64 e]) ∧ Below w.heap.size w w' := by
  have g := meet_any a b c d w; rw [h] at g; exact g
theorem meet_y (a b c d p q e : Int) (w : World) (h : meetR a b c d = (p, q, e)) :
    Calls Try.prog 42 #[ivl a b, ivl c d] w fun r w' => r = .returned (.tuple #[ivl p q, .int .i64 e]) ∧ Below w.heap.size w w' := by
  have g := rmeet_any a b c d w; rw [h] at g; exact g
theorem mul_x (a b c d p q e : Int) (w : World) (h : mulR a b c d = (p, q, e)) :
    Calls Try.prog 23 #[ivl a b, ivl c d] w fun r w' => r = .returned (.tuple #[ivl p q, .int .i64 e]) ∧ Below w.heap.size w w' := by
  have g := mul_any a b c d w; rw [h] at g; exact g
theorem mul_y (a b c d p q e : Int) (w : World) (h : mulR a b c d = (p, q, e)) :
    Calls Try.prog 38 #[ivl a b, ivl c d] w fun r w' => r = .returned (.tuple #[ivl p q, .int .i64 e]) ∧ Below w.heap.size w w' := by
  have g := rmul_any a b c d w; rw [h] at g; exact g
theorem scale_x (a b n d p q e : Int) (w : World) (h : scaleR a b n d = (p, q, e)) :
    Calls Try.prog 25 #[ivl a b, .int .i64 n, .int .i64 d] w fun r w' => r = .returned (.tuple #[ivl p q, .int .i64 e]) ∧ Below w.heap.size w w' := by
  have g := scale_any a b n d w; rw [h] at g; exact g
theorem root_x (a b p q e : Int) (w : World) (h : rootR a b = (p, q, e)) :
    Calls Try.prog 28 #[ivl a b] w fun r w' => r = .returned (.tuple #[ivl p q, .int .i64 e]) ∧ Below w.heap.size w w' := by
  have g := root_any a b w; rw [h] at g; exact g
theorem scale_y (a b n d p q e : Int) (w : World) (h : scaleR a b n d = (p, q, e)) :
    Calls Try.prog 39 #[ivl a b, .int .i64 n, .int .i64 d] w fun r w' => r = .returned (.tuple #[ivl p q, .int .i64 e]) ∧ Below w.heap.size w w' := by
  have g := rscale_any a b n d w; rw [h] at g; exact g
theorem root_y (a b p q e : Int) (w : World) (h : rootR a b = (p, q, e)) :
    Calls Try.prog 40 #[ivl a b] w fun r w' => r = .returned (.tuple #[ivl p q, .int .i64 e]) ∧ Below w.heap.size w w' := by
  have g := rroot_any a b w; rw [h] at g; exact g

/-- What was there when the call began has not turned. -/
structure Bw (w a : World) : Prop where
  bel : Below w.heap.size w a
theorem Bw.refl (w : World) : Bw w w := ⟨Below.refl _ _⟩
theorem Bw.lt {w a : World} (h : Bw w a) : w.heap.size ≤ a.heap.size := h.bel.size
theorem Bw.below {w a b : World} (h : Bw w a) (k : Below a.heap.size a b) : Bw w b := ⟨h.bel.trans (k.mono h.bel.size)⟩
theorem Bw.alloc {w a : World} (h : Bw w a) (o : Obj) : Bw w (a.alloc o) := h.below ((Below.refl _ _).alloc (Nat.le_refl _) _)
theorem Bw.drew {w a : World} (h : Bw w a) : Bw w a.drew := ⟨h.bel.drew⟩
theorem Bw.put {w a : World} {c : Nat} {u v : Value} (h : Bw w a) (hc : w.heap.size ≤ c) : Bw w ((a.setCell ⟨c, 0, none⟩ u).setCell ⟨c, 1, none⟩ v) :=
  ⟨(h.bel.setCell hc _).setCell hc _⟩
theorem Frz.drew {w : World} {b : Nat} (h : Frz w b) : Frz w.drew b := h.below ⟨rfl, rfl, rfl, Nat.le_refl _, fun _ _ => rfl⟩

theorem locS4 {w : World} {x y s t : Nat} {a b c d p q p' q' : Int} (X : Loc w x a b) (Y : Loc w y c d) (A : Loc w s p q) (B : Loc w t p' q') :
    w.cell? ⟨x, 0, none⟩ = some (.int .i64 a) ∧ w.cell? ⟨x, 1, none⟩ = some (.int .i64 b) ∧ w.cell? ⟨y, 0, none⟩ = some (.int .i64 c) ∧ w.cell? ⟨y, 1, none⟩ = some (.int .i64 d) ∧
    w.cell? ⟨s, 0, none⟩ = some (.int .i64 p) ∧ w.cell? ⟨s, 1, none⟩ = some (.int .i64 q) ∧ w.cell? ⟨t, 0, none⟩ = some (.int .i64 p') ∧ w.cell? ⟨t, 1, none⟩ = some (.int .i64 q') :=
  ⟨X.c0, X.c1, Y.c0, Y.c1, A.c0, A.c1, B.c0, B.c1⟩

set_option maxRecDepth 100000 in
set_option maxHeartbeats 8000000 in
theorem exact_any (a b c d num den : Int) (w : World) :
    Calls Try.prog 11 #[ivl a b, ivl c d, .int .i64 num, .int .i64 den] w fun e w' => e = .returned (.bool true) ∧ Below w.heap.size w w' := by
  obtain ⟨p0, q0, e0, h0⟩ := ex3 (addR a b c d)
  have H0 := Lib.hid h0
  obtain ⟨p1, q1, e1, h1⟩ := ex3 (subR a b c d)
  have H1 := Lib.hid h1
  obtain ⟨p2, q2, e2, h2⟩ := ex3 (mulR a b c d)
  have H2 := Lib.hid h2
  obtain ⟨p3, q3, e3, h3⟩ := ex3 (scaleR a b num den)
  have H3 := Lib.hid h3
  obtain ⟨p4, q4, e4, h4⟩ := ex3 (rootR a b)
  have H4 := Lib.hid h4
  obtain ⟨p5, q5, e5, h5⟩ := ex3 (hullR a b c d)
  have H5 := Lib.hid h5
  obtain ⟨p6, q6, e6, h6⟩ := ex3 (meetR a b c d)
  have H6 := Lib.hid h6
  clear h0 h1 h2 h3 h4 h5 h6
  go_enter Try.func11, Try.ntmps11
  go_wp2_with fail
  refine (add_x _ _ _ _ p0 q0 e0 _ H0.out).mono ?_
  rintro e w1 ⟨rfl, kb⟩
  have bs_w : w.heap.size ≤ w.heap.size := (Bw.refl w).lt
  have R1 := (((Bw.refl w).alloc _).alloc _).below kb
  have X_1 : Loc w1 w.heap.size a b := ((Loc.new _ rfl).alloc _).below kb
  have Y_1 : Loc w1 (w.heap.size + 1) c d := (Loc.new _ (by simp)).below kb
  clear kb
  obtain ⟨X0, X1, Xl⟩ := X_1
  obtain ⟨Y0, Y1, Yl⟩ := Y_1
  go_wp2_with fail
  refine (add_y _ _ _ _ p0 q0 e0 _ H0.out).mono ?_
  rintro e w2 ⟨rfl, kb⟩
  have bs_w1 : w.heap.size ≤ w1.heap.size := R1.lt
  have bl_w1 : (w.heap.size + 1) < w1.heap.size := Loc.lt (⟨Y0, Y1, Yl⟩ : Loc _ _ _ _)
  have R2 := (R1.alloc _).below kb
  have X_2 : Loc w2 w.heap.size a b := ((⟨X0, X1, Xl⟩ : Loc _ _ _ _).alloc _).below kb
  have Y_2 : Loc w2 (w.heap.size + 1) c d := ((⟨Y0, Y1, Yl⟩ : Loc _ _ _ _).alloc _).below kb
  have A_2 : Loc w2 w1.heap.size p0 q0 := (Loc.new _ rfl).below kb
  have AF_2 : Frz w2 w1.heap.size := (Frz.new _ rfl).below kb
  clear kb R1 X0 X1 Xl Y0 Y1 Yl
  obtain ⟨X0, X1, Xl⟩ := X_2
  obtain ⟨Y0, Y1, Yl⟩ := Y_2
  obtain ⟨A0, A1, Al⟩ := A_2
  have bs_w2 : w.heap.size ≤ w2.heap.size := R2.lt
  have bl_w2 : w1.heap.size < w2.heap.size := Al
  go_upto_region 3 with fail
  go_cut [61] (fun t wx => t = .bool false ∧ Bw w wx ∧ Loc wx w.heap.size a b ∧ Loc wx (w.heap.size + 1) c d ∧ Loc wx w1.heap.size p0 q0 ∧ Loc wx w2.heap.size p0 q0 ∧ Frz wx w1.heap.size ∧ Frz wx w2.heap.size)
  case first =>
    have RQ := R2.alloc (.cells #[.int .i64 p0, .int .i64 q0] 24)
    have XX : Loc (w2.alloc (.cells #[.int .i64 p0, .int .i64 q0] 24)) w.heap.size a b := Loc.alloc (⟨X0, X1, Xl⟩ : Loc _ _ _ _) _
    have YY : Loc (w2.alloc (.cells #[.int .i64 p0, .int .i64 q0] 24)) (w.heap.size + 1) c d := Loc.alloc (⟨Y0, Y1, Yl⟩ : Loc _ _ _ _) _
    have AA : Loc (w2.alloc (.cells #[.int .i64 p0, .int .i64 q0] 24)) w1.heap.size p0 q0 := Loc.alloc (⟨A0, A1, Al⟩ : Loc _ _ _ _) _
    have BB : Loc (w2.alloc (.cells #[.int .i64 p0, .int .i64 q0] 24)) w2.heap.size p0 q0 := Loc.new _ rfl
    have FA : Frz (w2.alloc (.cells #[.int .i64 p0, .int .i64 q0] 24)) w1.heap.size := Frz.alloc AF_2 _
    have FB : Frz (w2.alloc (.cells #[.int .i64 p0, .int .i64 q0] 24)) w2.heap.size := Frz.new _ rfl
    generalize (w2.alloc (.cells #[.int .i64 p0, .int .i64 q0] 24)) = wq at *
    clear X0 X1 Xl Y0 Y1 Yl A0 A1 Al R2 AF_2
    obtain ⟨XX0, XX1, XXl⟩ := XX
    have XX : Loc wq w.heap.size a b := ⟨XX0, XX1, XXl⟩
    obtain ⟨YY0, YY1, YYl⟩ := YY
    have YY : Loc wq (w.heap.size + 1) c d := ⟨YY0, YY1, YYl⟩
    obtain ⟨AA0, AA1, AAl⟩ := AA
    have AA : Loc wq w1.heap.size p0 q0 := ⟨AA0, AA1, AAl⟩
    obtain ⟨BB0, BB1, BBl⟩ := BB
    have BB : Loc wq w2.heap.size p0 q0 := ⟨BB0, BB1, BBl⟩
    go_region_held3 (fun w' => w'.cell? ⟨w.heap.size, 0, none⟩ = some (.int .i64 a) ∧ w'.cell? ⟨w.heap.size, 1, none⟩ = some (.int .i64 b) ∧ w'.cell? ⟨w.heap.size + 1, 0, none⟩ = some (.int .i64 c) ∧ w'.cell? ⟨w.heap.size + 1, 1, none⟩ = some (.int .i64 d) ∧ w'.cell? ⟨w1.heap.size, 0, none⟩ = some (.int .i64 p0) ∧ w'.cell? ⟨w1.heap.size, 1, none⟩ = some (.int .i64 q0) ∧ w'.cell? ⟨w2.heap.size, 0, none⟩ = some (.int .i64 p0) ∧ w'.cell? ⟨w2.heap.size, 1, none⟩ = some (.int .i64 q0))
      (first | exact locS4 ((((((XX.drew.below kv).below kr).below kc).below kd).below kw).below kx) ((((((YY.drew.below kv).below kr).below kc).below kd).below kw).below kx) ((((((AA.drew.below kv).below kr).below kc).below kd).below kw).below kx) ((((((BB.drew.below kv).below kr).below kc).below kd).below kw).below kx) | exact locS4 (((((XX.drew.below kv).below kr).below kc).below kd).below kw) (((((YY.drew.below kv).below kr).below kc).below kd).below kw) (((((AA.drew.below kv).below kr).below kc).below kd).below kw) (((((BB.drew.below kv).below kr).below kc).below kd).below kw) | exact locS4 ((((XX.drew.below kv).below kr).below kc).below kd) ((((YY.drew.below kv).below kr).below kc).below kd) ((((AA.drew.below kv).below kr).below kc).below kd) ((((BB.drew.below kv).below kr).below kc).below kd) | exact locS4 (((XX.drew.below kv).below kr).below kc) (((YY.drew.below kv).below kr).below kc) (((AA.drew.below kv).below kr).below kc) (((BB.drew.below kv).below kr).below kc) | exact locS4 ((XX.drew.below kv).below kr) ((YY.drew.below kv).below kr) ((AA.drew.below kv).below kr) ((BB.drew.below kv).below kr) | exact locS4 (XX.drew.below kv) (YY.drew.below kv) (AA.drew.below kv) (BB.drew.below kv) | go_keep)
      (first
        | (go_at_call 33; refine (valid_any _ _ _).mono ?_; rintro e we ⟨rfl, kv⟩)
        | (go_at_call 34; refine (rvalid_any _ _ _).mono ?_; rintro e we ⟨rfl, kr⟩)
        | (go_at_call 24; refine (contains_any _ _ _ _).mono ?_; rintro e we ⟨rfl, kc⟩)
        | (go_at_call 35; refine (rcontains_any _ _ _ _).mono ?_; rintro e we ⟨rfl, kd⟩)
        | (go_at_call 29; refine (within_any _ _ _ _ _).mono ?_; rintro e we ⟨rfl, kw⟩)
        | (go_at_call 36; refine (rwithin_any _ _ _ _ _).mono ?_; rintro e we ⟨rfl, kx⟩))
    all_goals
      go_wp2_with fail
      go_meet
      case rel => exact ⟨rfl, ((((((RQ.drew.below kv).below kr).below kc).below kd).below kw).below kx), ((((((XX.drew.below kv).below kr).below kc).below kd).below kw).below kx), ((((((YY.drew.below kv).below kr).below kc).below kd).below kw).below kx), ((((((AA.drew.below kv).below kr).below kc).below kd).below kw).below kx), ((((((BB.drew.below kv).below kr).below kc).below kd).below kw).below kx), ((((((FA.drew.below kv).below kr).below kc).below kd).below kw).below kx), ((((((FB.drew.below kv).below kr).below kc).below kd).below kw).below kx)⟩
  case rest =>
    clear X0 X1 Xl Y0 Y1 Yl A0 A1 Al R2 AF_2
    obtain ⟨rfl, R3, X_3, Y_3, A_3, B_3, AF_3, BF_3⟩ := hcut
    obtain ⟨X0, X1, Xl⟩ := X_3
    obtain ⟨Y0, Y1, Yl⟩ := Y_3
    go_wp2_with fail
    refine (sub_x _ _ _ _ p1 q1 e1 _ H1.out).mono ?_
    rintro e w4 ⟨rfl, kb⟩
    have R4 := R3.below kb
    have X_4 : Loc w4 w.heap.size a b := (⟨X0, X1, Xl⟩ : Loc _ _ _ _).below kb
    have Y_4 : Loc w4 (w.heap.size + 1) c d := (⟨Y0, Y1, Yl⟩ : Loc _ _ _ _).below kb
    have A_4 : Loc w4 w1.heap.size p0 q0 := A_3.below kb
    have B_4 : Loc w4 w2.heap.size p0 q0 := B_3.below kb
    have AF_4 : Frz w4 w1.heap.size := AF_3.below kb
    have BF_4 : Frz w4 w2.heap.size := BF_3.below kb
    clear kb AF_3 A_3 BF_3 B_3 R3 X0 X1 Xl Y0 Y1 Yl
    obtain ⟨X0, X1, Xl⟩ := X_4
    obtain ⟨Y0, Y1, Yl⟩ := Y_4
    obtain ⟨A0, A1, Al⟩ := A_4
    obtain ⟨Af0, Af1, Afl⟩ := AF_4
    go_wp2_with fail
    refine (sub_y _ _ _ _ p1 q1 e1 _ H1.out).mono ?_
    rintro e w5 ⟨rfl, kb⟩
    have R5 := (R4.put (by omega)).below kb
    have X_5 : Loc w5 w.heap.size a b := ((⟨X0, X1, Xl⟩ : Loc _ _ _ _).put_other (by omega)).below kb
    have Y_5 : Loc w5 (w.heap.size + 1) c d := ((⟨Y0, Y1, Yl⟩ : Loc _ _ _ _).put_other (by omega)).below kb
    have A_5 : Loc w5 w1.heap.size p1 q1 := ((⟨A0, A1, Al⟩ : Loc _ _ _ _).put_same).below kb
    have B_5 : Loc w5 w2.heap.size p0 q0 := (B_4.put_other (by omega)).below kb
    have AF_5 : Frz w5 w1.heap.size := ((⟨Af0, Af1, Afl⟩ : Frz _ _).put).below kb
    have BF_5 : Frz w5 w2.heap.size := (BF_4.put).below kb
    clear kb A0 A1 Af0 Af1 Afl Al BF_4 B_4 R4 X0 X1 Xl Y0 Y1 Yl
    obtain ⟨X0, X1, Xl⟩ := X_5
    obtain ⟨Y0, Y1, Yl⟩ := Y_5
    obtain ⟨B0, B1, Bl⟩ := B_5
    obtain ⟨Bf0, Bf1, Bfl⟩ := BF_5
    go_wp2_with fail
    refine (mul_x _ _ _ _ p2 q2 e2 _ H2.out).mono ?_
    rintro e w6 ⟨rfl, kb⟩
    have R6 := (R5.put (by omega)).below kb
    have X_6 : Loc w6 w.heap.size a b := ((⟨X0, X1, Xl⟩ : Loc _ _ _ _).put_other (by omega)).below kb
    have Y_6 : Loc w6 (w.heap.size + 1) c d := ((⟨Y0, Y1, Yl⟩ : Loc _ _ _ _).put_other (by omega)).below kb
    have A_6 : Loc w6 w1.heap.size p1 q1 := (A_5.put_other (by omega)).below kb
    have B_6 : Loc w6 w2.heap.size p1 q1 := ((⟨B0, B1, Bl⟩ : Loc _ _ _ _).put_same).below kb
    have AF_6 : Frz w6 w1.heap.size := (AF_5.put).below kb
    have BF_6 : Frz w6 w2.heap.size := ((⟨Bf0, Bf1, Bfl⟩ : Frz _ _).put).below kb
    clear kb AF_5 A_5 B0 B1 Bf0 Bf1 Bfl Bl R5 X0 X1 Xl Y0 Y1 Yl
    obtain ⟨X0, X1, Xl⟩ := X_6
    obtain ⟨Y0, Y1, Yl⟩ := Y_6
    go_wp2_with fail
    refine (mul_y _ _ _ _ p2 q2 e2 _ H2.out).mono ?_
    rintro e w7 ⟨rfl, kb⟩
    have bs_w6 : w.heap.size ≤ w6.heap.size := R6.lt
    have bl_w6 : w2.heap.size < w6.heap.size := Loc.lt B_6
    have R7 := (R6.alloc _).below kb
    have X_7 : Loc w7 w.heap.size a b := ((⟨X0, X1, Xl⟩ : Loc _ _ _ _).alloc _).below kb
    have Y_7 : Loc w7 (w.heap.size + 1) c d := ((⟨Y0, Y1, Yl⟩ : Loc _ _ _ _).alloc _).below kb
    have A_7 : Loc w7 w1.heap.size p1 q1 := (A_6.alloc _).below kb
    have B_7 : Loc w7 w2.heap.size p1 q1 := (B_6.alloc _).below kb
    have C_7 : Loc w7 w6.heap.size p2 q2 := (Loc.new _ rfl).below kb
    have AF_7 : Frz w7 w1.heap.size := (AF_6.alloc _).below kb
    have BF_7 : Frz w7 w2.heap.size := (BF_6.alloc _).below kb
    have CF_7 : Frz w7 w6.heap.size := (Frz.new _ rfl).below kb
    clear kb AF_6 A_6 BF_6 B_6 R6 X0 X1 Xl Y0 Y1 Yl
    obtain ⟨X0, X1, Xl⟩ := X_7
    obtain ⟨Y0, Y1, Yl⟩ := Y_7
    obtain ⟨A0, A1, Al⟩ := A_7
    obtain ⟨B0, B1, Bl⟩ := B_7
    obtain ⟨C0, C1, Cl⟩ := C_7
    go_wp2_with fail
    refine (scale_x _ _ _ _ p3 q3 e3 _ H3.out).mono ?_
    rintro e w8 ⟨rfl, kb⟩
    have bs_w7 : w.heap.size ≤ w7.heap.size := R7.lt
    have bl_w7 : w6.heap.size < w7.heap.size := Loc.lt (⟨C0, C1, Cl⟩ : Loc _ _ _ _)
    have R8 := (R7.alloc _).below kb
    have X_8 : Loc w8 w.heap.size a b := ((⟨X0, X1, Xl⟩ : Loc _ _ _ _).alloc _).below kb
    have Y_8 : Loc w8 (w.heap.size + 1) c d := ((⟨Y0, Y1, Yl⟩ : Loc _ _ _ _).alloc _).below kb
    have A_8 : Loc w8 w1.heap.size p1 q1 := ((⟨A0, A1, Al⟩ : Loc _ _ _ _).alloc _).below kb
    have B_8 : Loc w8 w2.heap.size p1 q1 := ((⟨B0, B1, Bl⟩ : Loc _ _ _ _).alloc _).below kb
    have C_8 : Loc w8 w6.heap.size p2 q2 := ((⟨C0, C1, Cl⟩ : Loc _ _ _ _).alloc _).below kb
    have D_8 : Loc w8 w7.heap.size p2 q2 := (Loc.new _ rfl).below kb
    have AF_8 : Frz w8 w1.heap.size := (AF_7.alloc _).below kb
    have BF_8 : Frz w8 w2.heap.size := (BF_7.alloc _).below kb
    have CF_8 : Frz w8 w6.heap.size := (CF_7.alloc _).below kb
    have DF_8 : Frz w8 w7.heap.size := (Frz.new _ rfl).below kb
    clear kb A0 A1 AF_7 Al B0 B1 BF_7 Bl C0 C1 CF_7 Cl R7 X0 X1 Xl Y0 Y1 Yl
    obtain ⟨X0, X1, Xl⟩ := X_8
    obtain ⟨Y0, Y1, Yl⟩ := Y_8
    obtain ⟨A0, A1, Al⟩ := A_8
    obtain ⟨Af0, Af1, Afl⟩ := AF_8
    go_wp2_with fail
    refine (scale_y _ _ _ _ p3 q3 e3 _ H3.out).mono ?_
    rintro e w9 ⟨rfl, kb⟩
    have R9 := (R8.put (by omega)).below kb
    have X_9 : Loc w9 w.heap.size a b := ((⟨X0, X1, Xl⟩ : Loc _ _ _ _).put_other (by omega)).below kb
    have Y_9 : Loc w9 (w.heap.size + 1) c d := ((⟨Y0, Y1, Yl⟩ : Loc _ _ _ _).put_other (by omega)).below kb
    have A_9 : Loc w9 w1.heap.size p3 q3 := ((⟨A0, A1, Al⟩ : Loc _ _ _ _).put_same).below kb
    have B_9 : Loc w9 w2.heap.size p1 q1 := (B_8.put_other (by omega)).below kb
    have C_9 : Loc w9 w6.heap.size p2 q2 := (C_8.put_other (by omega)).below kb
    have D_9 : Loc w9 w7.heap.size p2 q2 := (D_8.put_other (by omega)).below kb
    have AF_9 : Frz w9 w1.heap.size := ((⟨Af0, Af1, Afl⟩ : Frz _ _).put).below kb
    have BF_9 : Frz w9 w2.heap.size := (BF_8.put).below kb
    have CF_9 : Frz w9 w6.heap.size := (CF_8.put).below kb
    have DF_9 : Frz w9 w7.heap.size := (DF_8.put).below kb
    clear kb A0 A1 Af0 Af1 Afl Al BF_8 B_8 CF_8 C_8 DF_8 D_8 R8 X0 X1 Xl Y0 Y1 Yl
    obtain ⟨X0, X1, Xl⟩ := X_9
    obtain ⟨Y0, Y1, Yl⟩ := Y_9
    obtain ⟨B0, B1, Bl⟩ := B_9
    obtain ⟨Bf0, Bf1, Bfl⟩ := BF_9
    go_wp2_with fail
    refine (root_x _ _ p4 q4 e4 _ H4.out).mono ?_
    rintro e wA ⟨rfl, kb⟩
    have R10 := (R9.put (by omega)).below kb
    have X_10 : Loc wA w.heap.size a b := ((⟨X0, X1, Xl⟩ : Loc _ _ _ _).put_other (by omega)).below kb
    have Y_10 : Loc wA (w.heap.size + 1) c d := ((⟨Y0, Y1, Yl⟩ : Loc _ _ _ _).put_other (by omega)).below kb
    have A_10 : Loc wA w1.heap.size p3 q3 := (A_9.put_other (by omega)).below kb
    have B_10 : Loc wA w2.heap.size p3 q3 := ((⟨B0, B1, Bl⟩ : Loc _ _ _ _).put_same).below kb
    have C_10 : Loc wA w6.heap.size p2 q2 := (C_9.put_other (by omega)).below kb
    have D_10 : Loc wA w7.heap.size p2 q2 := (D_9.put_other (by omega)).below kb
    have AF_10 : Frz wA w1.heap.size := (AF_9.put).below kb
    have BF_10 : Frz wA w2.heap.size := ((⟨Bf0, Bf1, Bfl⟩ : Frz _ _).put).below kb
    have CF_10 : Frz wA w6.heap.size := (CF_9.put).below kb
    have DF_10 : Frz wA w7.heap.size := (DF_9.put).below kb
    clear kb AF_9 A_9 B0 B1 Bf0 Bf1 Bfl Bl CF_9 C_9 DF_9 D_9 R9 X0 X1 Xl Y0 Y1 Yl
    obtain ⟨X0, X1, Xl⟩ := X_10
    obtain ⟨Y0, Y1, Yl⟩ := Y_10
    obtain ⟨C0, C1, Cl⟩ := C_10
    obtain ⟨Cf0, Cf1, Cfl⟩ := CF_10
    go_wp2_with fail
    refine (root_y _ _ p4 q4 e4 _ H4.out).mono ?_
    rintro e wB ⟨rfl, kb⟩
    have R11 := (R10.put (by omega)).below kb
    have X_11 : Loc wB w.heap.size a b := ((⟨X0, X1, Xl⟩ : Loc _ _ _ _).put_other (by omega)).below kb
    have Y_11 : Loc wB (w.heap.size + 1) c d := ((⟨Y0, Y1, Yl⟩ : Loc _ _ _ _).put_other (by omega)).below kb
    have A_11 : Loc wB w1.heap.size p3 q3 := (A_10.put_other (by omega)).below kb
    have B_11 : Loc wB w2.heap.size p3 q3 := (B_10.put_other (by omega)).below kb
    have C_11 : Loc wB w6.heap.size p4 q4 := ((⟨C0, C1, Cl⟩ : Loc _ _ _ _).put_same).below kb
    have D_11 : Loc wB w7.heap.size p2 q2 := (D_10.put_other (by omega)).below kb
    have AF_11 : Frz wB w1.heap.size := (AF_10.put).below kb
    have BF_11 : Frz wB w2.heap.size := (BF_10.put).below kb
    have CF_11 : Frz wB w6.heap.size := ((⟨Cf0, Cf1, Cfl⟩ : Frz _ _).put).below kb
    have DF_11 : Frz wB w7.heap.size := (DF_10.put).below kb
    clear kb AF_10 A_10 BF_10 B_10 C0 C1 Cf0 Cf1 Cfl Cl DF_10 D_10 R10 X0 X1 Xl Y0 Y1 Yl
    obtain ⟨X0, X1, Xl⟩ := X_11
    obtain ⟨Y0, Y1, Yl⟩ := Y_11
    obtain ⟨A0, A1, Al⟩ := A_11
    obtain ⟨B0, B1, Bl⟩ := B_11
    obtain ⟨C0, C1, Cl⟩ := C_11
    obtain ⟨D0, D1, Dl⟩ := D_11
    obtain ⟨Df0, Df1, Dfl⟩ := DF_11
    go_wp2_with fail
    refine (hull_x _ _ _ _ p5 q5 e5 _ H5.out).mono ?_
    rintro e wC ⟨rfl, kb⟩
    have R12 := (R11.put (by omega)).below kb
    have X_12 : Loc wC w.heap.size a b := ((⟨X0, X1, Xl⟩ : Loc _ _ _ _).put_other (by omega)).below kb
    have Y_12 : Loc wC (w.heap.size + 1) c d := ((⟨Y0, Y1, Yl⟩ : Loc _ _ _ _).put_other (by omega)).below kb
    have A_12 : Loc wC w1.heap.size p3 q3 := ((⟨A0, A1, Al⟩ : Loc _ _ _ _).put_other (by omega)).below kb
    have B_12 : Loc wC w2.heap.size p3 q3 := ((⟨B0, B1, Bl⟩ : Loc _ _ _ _).put_other (by omega)).below kb
    have C_12 : Loc wC w6.heap.size p4 q4 := ((⟨C0, C1, Cl⟩ : Loc _ _ _ _).put_other (by omega)).below kb
    have D_12 : Loc wC w7.heap.size p4 q4 := ((⟨D0, D1, Dl⟩ : Loc _ _ _ _).put_same).below kb
    have AF_12 : Frz wC w1.heap.size := (AF_11.put).below kb
    have BF_12 : Frz wC w2.heap.size := (BF_11.put).below kb
    have CF_12 : Frz wC w6.heap.size := (CF_11.put).below kb
    have DF_12 : Frz wC w7.heap.size := ((⟨Df0, Df1, Dfl⟩ : Frz _ _).put).below kb
    clear kb A0 A1 AF_11 Al B0 B1 BF_11 Bl C0 C1 CF_11 Cl D0 D1 Df0 Df1 Dfl Dl R11 X0 X1 Xl Y0 Y1 Yl
    obtain ⟨X0, X1, Xl⟩ := X_12
    obtain ⟨Y0, Y1, Yl⟩ := Y_12
    obtain ⟨A0, A1, Al⟩ := A_12
    obtain ⟨Af0, Af1, Afl⟩ := AF_12
    go_wp2_with fail
    refine (hull_y _ _ _ _ p5 q5 e5 _ H5.out).mono ?_
    rintro e wD ⟨rfl, kb⟩
    have R13 := (R12.put (by omega)).below kb
    have X_13 : Loc wD w.heap.size a b := ((⟨X0, X1, Xl⟩ : Loc _ _ _ _).put_other (by omega)).below kb
    have Y_13 : Loc wD (w.heap.size + 1) c d := ((⟨Y0, Y1, Yl⟩ : Loc _ _ _ _).put_other (by omega)).below kb
    have A_13 : Loc wD w1.heap.size p5 q5 := ((⟨A0, A1, Al⟩ : Loc _ _ _ _).put_same).below kb
    have B_13 : Loc wD w2.heap.size p3 q3 := (B_12.put_other (by omega)).below kb
    have C_13 : Loc wD w6.heap.size p4 q4 := (C_12.put_other (by omega)).below kb
    have D_13 : Loc wD w7.heap.size p4 q4 := (D_12.put_other (by omega)).below kb
    have AF_13 : Frz wD w1.heap.size := ((⟨Af0, Af1, Afl⟩ : Frz _ _).put).below kb
    have BF_13 : Frz wD w2.heap.size := (BF_12.put).below kb
    have CF_13 : Frz wD w6.heap.size := (CF_12.put).below kb
    have DF_13 : Frz wD w7.heap.size := (DF_12.put).below kb
    clear kb A0 A1 Af0 Af1 Afl Al BF_12 B_12 CF_12 C_12 DF_12 D_12 R12 X0 X1 Xl Y0 Y1 Yl
    obtain ⟨X0, X1, Xl⟩ := X_13
    obtain ⟨Y0, Y1, Yl⟩ := Y_13
    obtain ⟨B0, B1, Bl⟩ := B_13
    obtain ⟨Bf0, Bf1, Bfl⟩ := BF_13
    go_wp2_with fail
    refine (meet_x _ _ _ _ p6 q6 e6 _ H6.out).mono ?_
    rintro e wE ⟨rfl, kb⟩
    have R14 := (R13.put (by omega)).below kb
    have X_14 : Loc wE w.heap.size a b := ((⟨X0, X1, Xl⟩ : Loc _ _ _ _).put_other (by omega)).below kb
    have Y_14 : Loc wE (w.heap.size + 1) c d := ((⟨Y0, Y1, Yl⟩ : Loc _ _ _ _).put_other (by omega)).below kb
    have A_14 : Loc wE w1.heap.size p5 q5 := (A_13.put_other (by omega)).below kb
    have B_14 : Loc wE w2.heap.size p5 q5 := ((⟨B0, B1, Bl⟩ : Loc _ _ _ _).put_same).below kb
    have C_14 : Loc wE w6.heap.size p4 q4 := (C_13.put_other (by omega)).below kb
    have D_14 : Loc wE w7.heap.size p4 q4 := (D_13.put_other (by omega)).below kb
    have AF_14 : Frz wE w1.heap.size := (AF_13.put).below kb
    have BF_14 : Frz wE w2.heap.size := ((⟨Bf0, Bf1, Bfl⟩ : Frz _ _).put).below kb
    have CF_14 : Frz wE w6.heap.size := (CF_13.put).below kb
    have DF_14 : Frz wE w7.heap.size := (DF_13.put).below kb
    clear kb AF_13 A_13 B0 B1 Bf0 Bf1 Bfl Bl CF_13 C_13 DF_13 D_13 R13 X0 X1 Xl Y0 Y1 Yl
    obtain ⟨X0, X1, Xl⟩ := X_14
    obtain ⟨Y0, Y1, Yl⟩ := Y_14
    obtain ⟨C0, C1, Cl⟩ := C_14
    obtain ⟨Cf0, Cf1, Cfl⟩ := CF_14
    go_wp2_with fail
    refine (meet_y _ _ _ _ p6 q6 e6 _ H6.out).mono ?_
    rintro e wF ⟨rfl, kb⟩
    have R15 := (R14.put (by omega)).below kb
    have X_15 : Loc wF w.heap.size a b := ((⟨X0, X1, Xl⟩ : Loc _ _ _ _).put_other (by omega)).below kb
    have Y_15 : Loc wF (w.heap.size + 1) c d := ((⟨Y0, Y1, Yl⟩ : Loc _ _ _ _).put_other (by omega)).below kb
    have A_15 : Loc wF w1.heap.size p5 q5 := (A_14.put_other (by omega)).below kb
    have B_15 : Loc wF w2.heap.size p5 q5 := (B_14.put_other (by omega)).below kb
    have C_15 : Loc wF w6.heap.size p6 q6 := ((⟨C0, C1, Cl⟩ : Loc _ _ _ _).put_same).below kb
    have D_15 : Loc wF w7.heap.size p4 q4 := (D_14.put_other (by omega)).below kb
    have AF_15 : Frz wF w1.heap.size := (AF_14.put).below kb
    have BF_15 : Frz wF w2.heap.size := (BF_14.put).below kb
    have CF_15 : Frz wF w6.heap.size := ((⟨Cf0, Cf1, Cfl⟩ : Frz _ _).put).below kb
    have DF_15 : Frz wF w7.heap.size := (DF_14.put).below kb
    clear kb AF_14 A_14 BF_14 B_14 C0 C1 Cf0 Cf1 Cfl Cl DF_14 D_14 R14 X0 X1 Xl Y0 Y1 Yl
    obtain ⟨A0, A1, Al⟩ := A_15
    obtain ⟨B0, B1, Bl⟩ := B_15
    obtain ⟨C0, C1, Cl⟩ := C_15
    obtain ⟨D0, D1, Dl⟩ := D_15
    obtain ⟨Df0, Df1, Dfl⟩ := DF_15
    go_wp2_with fail
    go_ret
    exact ⟨rfl, (R15.put (by omega)).bel⟩
end Go.Proofs.Ytfpjpilhblhhgaa
