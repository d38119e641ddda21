/-
  Stage 11: exact, over the contracts of what it calls.
-/
import Derived.Test.YtpimdcljecipeaaJBox
import Derived.Test.YtpimdcljecipeaaJSet
import Derived.Test.YtpimdcljecipeaaSame
import Derived.Test.YtpimdcljecipeaaReg
set_option linter.unusedSimpArgs false
set_option linter.unusedVariables false
namespace Go.Proofs.Ytpimdcljecipeaa
open Go.RowKit Go.Lib

def tlJ (i : Nat) : Bool := false
theorem AnyT.enterJ {P : Program} {ops : Array Oper} {Q : Exit → Act → World → Prop} {S : World → Prop} {tl : Nat → Bool} {i : Nat} {o : Oper} {fuel : Nat} {listed : Array Bool} {a : Act} {w : World} {f : FuncId} {args : Array Value} {R : Ending → World → Prop} {d : Option Tmp} (ho : ops[i]? = some o) (hw : Region.wanted o (yielded ops a.tmps) = true) (hd : o.dst = d)
    (hrun : (execOp a.eval o).run P w = .ok (.enter f args) w) (hc : Calls P f args w R)
    (h : ∀ e w', R e w' → ∃ v, e = .returned v ∧ (tl i = false → S w') ∧ AnyT P ops Q S tl fuel (listed.setIfInBounds i true) (a.put d v) w') :
    wpOp P ops Q i (fun a' w' => (tl i = false → S w') ∧ AnyT P ops Q S tl fuel (listed.setIfInBounds i true) a' w') a w :=
  AnyT.step ho (fun KK hK => by
    subst hd
    rw [if_pos hw]
    unfold Oper.wp
    rw [hrun, Oper.upon_enter]
    refine hc.mono fun e w' hR => ?_
    obtain ⟨v, rfl, h1, h2⟩ := h e w' hR
    exact hK.out _ _ h1 h2)
/-- A list and a number are returned: the number V, and a list as P says. -/
def LstP (V : Int) (P : List Int → Prop) (w : World) (e : Ending) (w' : World) : Prop :=
  ∃ v zs, e = .returned (.tuple #[v, .int .i64 V]) ∧ Own .i64 3 w' w.heap.size v zs ∧ P zs ∧ Below w.heap.size w w'
def TupP (r re : Int) (w : World) (e : Ending) (w' : World) : Prop := e = .returned (.tuple #[.int .i64 r, .int .i64 re]) ∧ Below w.heap.size w w'
def NumB (r : Int) (w : World) (e : Ending) (w' : World) : Prop := e = .returned (.int .i64 r) ∧ Below w.heap.size w w'
def SrtP (b : Bool) (re : Int) (w : World) (e : Ending) (w' : World) : Prop := e = .returned (.tuple #[.bool b, .int .i64 re]) ∧ Below w.heap.size w w'
theorem own_lenJ {k : IntKind} {T : TypeId} {w : World} {base : Nat} {v : Value} {zs : List Int} (h : Own k T w base v zs) : ∃ A c, v = .slice A zs.length c ∧ Row k w w.heap.size A zs ∧ zs.length ≤ maxLen := by
  obtain ⟨A, c, rfl, LR, -, hm, -⟩ := h.slice
  exact ⟨A, c, rfl, LR, hm⟩
set_option maxRecDepth 100000 in
set_option maxHeartbeats 3200000 in
theorem exact11_any (l : List It) (A : Option Addr) (c L : Nat) (wt x y : Int) (ts : List (List Int)) (P : Option Addr) (pc T : Nat) (V r re : Int) (sb : Bool) (se : Int) (PL PD : List Int → Prop) (uL : ∀ a b, PL a → PL b → a = b) (uD : ∀ a b, PD a → PD b → a = b)
    (w : World) (hi : IRow w A l) (hp : PP w P ts)
    (k1 : ∀ W, IRow W A l → Calls Try.prog 15 #[jv A L c wt, .int .i64 x, .int .i64 y] W (TupP r re W))
    (k2 : ∀ W, IRow W A l → Calls Try.prog 16 #[jv A L c wt, .int .i64 x, .int .i64 y] W (TupP r re W))
    (k3 : ∀ W, IRow W A l → Calls Try.prog 17 #[jv A L c wt] W (LstP V PL W))
    (k4 : ∀ W, IRow W A l → Calls Try.prog 18 #[jv A L c wt] W (LstP V PL W))
    (k5 : ∀ W, IRow W A l → Calls Try.prog 19 #[jv A L c wt] W (NumB V W))
    (k6 : ∀ W, IRow W A l → Calls Try.prog 20 #[jv A L c wt] W (NumB V W))
    (k7 : ∀ W, IRow W A l → Calls Try.prog 22 #[jv A L c wt] W (LstP V PD W))
    (k8 : ∀ W, IRow W A l → Calls Try.prog 23 #[jv A L c wt] W (LstP V PD W))
    (k9 : ∀ W, IRow W A l → PP W P ts → Calls Try.prog 24 #[jv A L c wt, .slice P T pc] W (SrtP sb se W))
    (k10 : ∀ W, IRow W A l → PP W P ts → Calls Try.prog 25 #[jv A L c wt, .slice P T pc] W (SrtP sb se W)) :
    Calls Try.prog 7 #[jv A L c wt, .int .i64 x, .int .i64 y, .slice P T pc] w fun e w' => e = .returned (.bool true) ∧ Below w.heap.size w w' := by
  have HI := Lib.hid hi
  have HP := Lib.hid hp
  have K1 := Lib.hid k1
  have K2 := Lib.hid k2
  have K3 := Lib.hid k3
  have K4 := Lib.hid k4
  have K5 := Lib.hid k5
  have K6 := Lib.hid k6
  have K7 := Lib.hid k7
  have K8 := Lib.hid k8
  have K9 := Lib.hid k9
  have K10 := Lib.hid k10
  have UL := Lib.hid uL
  have UD := Lib.hid uD
  have HBW := Lib.hid ((Below.refl w.heap.size w).alloc (Nat.le_refl _) (.cells #[.slice A L c, .int .i64 wt] 25))
  have HJ := Lib.hid (JBox.new (w := w) (A := A) (n := L) (c := c) (wt := wt) w.heap.size rfl)
  obtain ⟨b, hbq⟩ : ∃ b, b = w.heap.size := ⟨_, rfl⟩
  clear hi hp k1 k2 k3 k4 k5 k6 k7 k8 k9 k10 uL uD
  go_enter Try.func7, Try.ntmps7
  go_upto_region 1 with fail
  rw [← hbq] at HJ ⊢
  generalize w.alloc (.cells #[.slice A L c, .int .i64 wt] 25) = w1 at *
  clear hbq
  obtain ⟨j0, j1, jl⟩ := HJ.out
  go_wp2_with fail
  refine (K1.out w1 (HI.out.below HBW.out)).mono ?_
  rintro e w2 ⟨rfl, B2⟩
  have HJ2 := Lib.hid (HJ.out.below B2 jl)
  have HB2 := Lib.hid (HBW.out.trans (B2.mono HBW.out.size))
  clear j0 j1 jl HJ HBW B2
  obtain ⟨j0, j1, jl⟩ := HJ2.out
  go_wp2_with fail
  refine (K2.out w2 (HI.out.below HB2.out)).mono ?_
  rintro e w3 ⟨rfl, B3⟩
  have HJ3 := Lib.hid (HJ2.out.below B3 jl)
  have HB3 := Lib.hid (HB2.out.trans (B3.mono HB2.out.size))
  clear j0 j1 jl HJ2 HB2 B3
  obtain ⟨j0, j1, jl⟩ := HJ3.out
  go_wp2_with fail
  refine (K3.out w3 (HI.out.below HB3.out)).mono ?_
  rintro e w4 ⟨v, zs, rfl, O4, hz, B4⟩
  have HJ4 := Lib.hid (HJ3.out.below B4 jl)
  have HB4 := Lib.hid (HB3.out.trans (B4.mono HB3.out.size))
  have HO4 := Lib.hid O4
  have HZ := Lib.hid hz
  clear j0 j1 jl HJ3 HB3 B4 O4 hz
  obtain ⟨j0, j1, jl⟩ := HJ4.out
  go_wp2_with fail
  refine (K4.out w4 (HI.out.below HB4.out)).mono ?_
  rintro e w5 ⟨v', zs', rfl, O5, hz', B5⟩
  obtain rfl := UL.out _ _ HZ.out hz'
  obtain ⟨zA, zc, rfl, ZR, hzm⟩ := own_lenJ (HO4.out.below B5)
  obtain ⟨yA, yc, rfl, YR, -⟩ := own_lenJ O5
  have HJ5 := Lib.hid (HJ4.out.below B5 jl)
  have HB5 := Lib.hid (HB4.out.trans (B5.mono HB4.out.size))
  have HIN := Lib.hid (fun (W : World) (k : Below w5.heap.size w5 W) => ints_same zs zA yA zc yc W (ZR.below k) (YR.below k) hzm)
  clear j0 j1 jl HJ4 HB4 B5 O5 hz' HO4 HZ ZR YR hzm
  obtain ⟨zl, hzl⟩ : ∃ k, k = zs.length := ⟨_, rfl⟩
  rw [← hzl] at HIN ⊢
  clear hzl
  obtain ⟨j0, j1, jl⟩ := HJ5.out
  go_upto_region 5 with fail
  have hvv : (V != V) = false := by simp
  have hrr : (r != r) = false := by simp
  have hre : (re != re) = false := by simp
  go_cut [68] from 43 to 68 (fun cv wx => cv = .bool false ∧ Hid (Below w5.heap.size w5 wx))
  case first =>
    have HPS := Lib.hid (fun (X : World) (k : Below w5.heap.size w5 X) => (show X.cell? ⟨b, 0, none⟩ = some (.slice A L c) ∧ X.cell? ⟨b, 1, none⟩ = some (.int .i64 wt) from ⟨(HJ5.out.below k HJ5.out.lt).c0, (HJ5.out.below k HJ5.out.lt).c1⟩))
    clear j0 j1 jl
    obtain ⟨q0, e0⟩ : ∃ x, x = w5.drew := ⟨_, rfl⟩
    have Q0 := Lib.hid (show Below w5.heap.size w5 q0 from by rw [e0]; exact (Below.refl _ _).drew)
    have F0 := HPS.out q0 Q0.out
    have HE0 := Lib.hid e0
    clear e0
    refine AnyT.begin_at tlJ (fun X => X.cell? ⟨b, 0, none⟩ = some (.slice A L c) ∧ X.cell? ⟨b, 1, none⟩ = some (.int .i64 wt)) (by kernel_rfl) HE0.out F0 ?_
    clear F0 HE0
    intro F0
    refine AnyT.takeD (i := 0) (d := some 43) (v := jv A L c wt) rfl rfl (by kernel_rfl) (by kernel_rfl) (by kernel_rfl) (by kernel_rfl) (fun _ _ _ h => h) (Or.inl ⟨by rfl, fun wz hz => by obtain ⟨z0, z1⟩ := hz; go_simp⟩) F0 ?_
    simp only [Act.put, List.setIfInBounds_toArray, List.set_cons_zero, List.set_cons_succ]
    refine AnyT.takeD (i := 2) (d := some 45) (v := jv A L c wt) rfl rfl (by kernel_rfl) (by kernel_rfl) (by kernel_rfl) (by kernel_rfl) (fun _ _ _ h => h) (Or.inl ⟨by rfl, fun wz hz => by obtain ⟨z0, z1⟩ := hz; go_simp⟩) F0 ?_
    simp only [Act.put, List.setIfInBounds_toArray, List.set_cons_zero, List.set_cons_succ]
    refine AnyT.branch (rs := [1]) (by kernel_rfl) (by simp) ?_
    refine all_cons (?_) all_nil
    refine AnyT.enter (i := 1) (d := some 44) (f := 19) (args := #[jv A L c wt]) rfl rfl rfl (by go_simp) (K5.out q0 (HI.out.below (HB5.out.trans (Q0.out.mono HB5.out.size)))) ?_
    rintro e q1 ⟨rfl, hB1⟩
    have Q1 := Lib.hid (Q0.out.trans (hB1.mono Q0.out.size))
    have F1 := HPS.out q1 Q1.out
    refine ⟨_, rfl, fun _ => F1, ?_⟩
    clear hB1 F0
    simp only [Act.put, List.setIfInBounds_toArray, List.set_cons_zero, List.set_cons_succ]
    refine AnyT.branch (rs := [3]) (by kernel_rfl) (by simp) ?_
    refine all_cons (?_) all_nil
    refine AnyT.enter (i := 3) (d := some 46) (f := 20) (args := #[jv A L c wt]) rfl rfl rfl (by go_simp) (K6.out q1 (HI.out.below (HB5.out.trans (Q1.out.mono HB5.out.size)))) ?_
    rintro e q2 ⟨rfl, hB2⟩
    have Q2 := Lib.hid (Q1.out.trans (hB2.mono Q1.out.size))
    have F2 := HPS.out q2 Q2.out
    refine ⟨_, rfl, fun _ => F2, ?_⟩
    clear hB2 F1
    simp only [Act.put, List.setIfInBounds_toArray, List.set_cons_zero, List.set_cons_succ]
    refine AnyT.takeD (i := 4) (d := some 47) (v := .bool false) rfl rfl (by kernel_rfl) (by kernel_rfl) (by kernel_rfl) (by kernel_rfl) (fun _ _ _ h => h) (Or.inl ⟨by rfl, fun wz _ => by go_simp⟩) F2 ?_
    simp only [Act.put, List.setIfInBounds_toArray, List.set_cons_zero, List.set_cons_succ]
    refine AnyT.takeD (i := 5) (d := some 48) (v := .bool false) rfl rfl (by kernel_rfl) (by kernel_rfl) (by kernel_rfl) (by kernel_rfl) (fun _ _ _ h => h) (Or.inl ⟨by rfl, fun wz _ => by go_simp⟩) F2 ?_
    simp only [Act.put, List.setIfInBounds_toArray, List.set_cons_zero, List.set_cons_succ]
    refine AnyT.takeD (i := 6) (d := some 49) (v := .int .i64 r) rfl rfl (by kernel_rfl) (by kernel_rfl) (by kernel_rfl) (by kernel_rfl) (fun _ _ _ h => h) (Or.inl ⟨by rfl, fun wz _ => by go_simp⟩) F2 ?_
    simp only [Act.put, List.setIfInBounds_toArray, List.set_cons_zero, List.set_cons_succ]
    refine AnyT.takeD (i := 7) (d := some 50) (v := .int .i64 r) rfl rfl (by kernel_rfl) (by kernel_rfl) (by kernel_rfl) (by kernel_rfl) (fun _ _ _ h => h) (Or.inl ⟨by rfl, fun wz _ => by go_simp⟩) F2 ?_
    simp only [Act.put, List.setIfInBounds_toArray, List.set_cons_zero, List.set_cons_succ]
    refine AnyT.takeD (i := 8) (d := some 51) (v := .bool false) rfl rfl (by kernel_rfl) (by kernel_rfl) (by kernel_rfl) (by kernel_rfl) (fun _ _ _ h => h) (Or.inl ⟨by rfl, fun wz _ => by go_simp⟩) F2 ?_
    simp only [Act.put, List.setIfInBounds_toArray, List.set_cons_zero, List.set_cons_succ]
    refine AnyT.takeD (i := 9) (d := some 52) (v := .bool false) rfl rfl (by kernel_rfl) (by kernel_rfl) (by kernel_rfl) (by kernel_rfl) (fun _ _ _ h => h) (Or.inl ⟨by rfl, fun wz _ => by go_simp⟩) F2 ?_
    simp only [Act.put, List.setIfInBounds_toArray, List.set_cons_zero, List.set_cons_succ]
    refine AnyT.takeD (i := 10) (d := some 53) (v := .bool false) rfl rfl (by kernel_rfl) (by kernel_rfl) (by kernel_rfl) (by kernel_rfl) (fun _ _ _ h => h) (Or.inl ⟨by rfl, fun wz _ => by go_simp⟩) F2 ?_
    simp only [Act.put, List.setIfInBounds_toArray, List.set_cons_zero, List.set_cons_succ]
    refine AnyT.takeD (i := 11) (d := some 54) (v := .int .i64 re) rfl rfl (by kernel_rfl) (by kernel_rfl) (by kernel_rfl) (by kernel_rfl) (fun _ _ _ h => h) (Or.inl ⟨by rfl, fun wz _ => by go_simp⟩) F2 ?_
    simp only [Act.put, List.setIfInBounds_toArray, List.set_cons_zero, List.set_cons_succ]
    refine AnyT.takeD (i := 12) (d := some 55) (v := .int .i64 re) rfl rfl (by kernel_rfl) (by kernel_rfl) (by kernel_rfl) (by kernel_rfl) (fun _ _ _ h => h) (Or.inl ⟨by rfl, fun wz _ => by go_simp⟩) F2 ?_
    simp only [Act.put, List.setIfInBounds_toArray, List.set_cons_zero, List.set_cons_succ]
    refine AnyT.takeD (i := 13) (d := some 56) (v := .bool false) rfl rfl (by kernel_rfl) (by kernel_rfl) (by kernel_rfl) (by kernel_rfl) (fun _ _ _ h => h) (Or.inl ⟨by rfl, fun wz _ => by go_simp⟩) F2 ?_
    simp only [Act.put, List.setIfInBounds_toArray, List.set_cons_zero, List.set_cons_succ]
    refine AnyT.takeD (i := 14) (d := some 57) (v := .bool false) rfl rfl (by kernel_rfl) (by kernel_rfl) (by kernel_rfl) (by kernel_rfl) (fun _ _ _ h => h) (Or.inl ⟨by rfl, fun wz _ => by go_simp⟩) F2 ?_
    simp only [Act.put, List.setIfInBounds_toArray, List.set_cons_zero, List.set_cons_succ]
    refine AnyT.takeD (i := 15) (d := some 58) (v := .bool false) rfl rfl (by kernel_rfl) (by kernel_rfl) (by kernel_rfl) (by kernel_rfl) (fun _ _ _ h => h) (Or.inl ⟨by rfl, fun wz _ => by go_simp⟩) F2 ?_
    simp only [Act.put, List.setIfInBounds_toArray, List.set_cons_zero, List.set_cons_succ]
    refine AnyT.takeD (i := 16) (d := some 59) (v := .slice zA zl zc) rfl rfl (by kernel_rfl) (by kernel_rfl) (by kernel_rfl) (by kernel_rfl) (fun _ _ _ h => h) (Or.inl ⟨by rfl, fun wz _ => by go_simp⟩) F2 ?_
    simp only [Act.put, List.setIfInBounds_toArray, List.set_cons_zero, List.set_cons_succ]
    refine AnyT.takeD (i := 17) (d := some 60) (v := .slice yA zl yc) rfl rfl (by kernel_rfl) (by kernel_rfl) (by kernel_rfl) (by kernel_rfl) (fun _ _ _ h => h) (Or.inl ⟨by rfl, fun wz _ => by go_simp⟩) F2 ?_
    simp only [Act.put, List.setIfInBounds_toArray, List.set_cons_zero, List.set_cons_succ]
    refine AnyT.branch (rs := [18]) (by kernel_rfl) (by simp) ?_
    refine all_cons (?_) all_nil
    refine AnyT.enterJ (i := 18) (d := some 61) (f := 21) (args := #[.slice zA zl zc, .slice yA zl yc]) rfl (by rfl) rfl (by go_simp) (HIN.out q2 Q2.out) ?_
    rintro e q3 ⟨rfl, n3, hq3⟩
    have Q3 := Lib.hid (show Below w5.heap.size w5 q3 by rw [hq3]; exact bdn Q2.out)
    have F3 := HPS.out q3 Q3.out
    refine ⟨_, rfl, fun _ => F3, ?_⟩
    clear hq3 F2
    simp only [Act.put, List.setIfInBounds_toArray, List.set_cons_zero, List.set_cons_succ]
    refine AnyT.takeD (i := 19) (d := some 62) (v := .bool false) rfl rfl (by kernel_rfl) (by kernel_rfl) (by kernel_rfl) (by kernel_rfl) (fun _ _ _ h => h) (Or.inl ⟨by rfl, fun wz _ => by go_simp⟩) F3 ?_
    simp only [Act.put, List.setIfInBounds_toArray, List.set_cons_zero, List.set_cons_succ]
    refine AnyT.takeD (i := 20) (d := some 63) (v := .bool false) rfl rfl (by kernel_rfl) (by kernel_rfl) (by kernel_rfl) (by kernel_rfl) (fun _ _ _ h => h) (Or.inl ⟨by rfl, fun wz _ => by go_simp⟩) F3 ?_
    simp only [Act.put, List.setIfInBounds_toArray, List.set_cons_zero, List.set_cons_succ]
    refine AnyT.takeD (i := 21) (d := some 64) (v := .bool false) rfl rfl (by kernel_rfl) (by kernel_rfl) (by kernel_rfl) (by kernel_rfl) (fun _ _ _ h => h) (Or.inl ⟨by rfl, fun wz _ => by go_simp⟩) F3 ?_
    simp only [Act.put, List.setIfInBounds_toArray, List.set_cons_zero, List.set_cons_succ]
    refine AnyT.takeD (i := 22) (d := some 65) (v := .int .i64 V) rfl rfl (by kernel_rfl) (by kernel_rfl) (by kernel_rfl) (by kernel_rfl) (fun _ _ _ h => h) (Or.inl ⟨by rfl, fun wz _ => by go_simp⟩) F3 ?_
    simp only [Act.put, List.setIfInBounds_toArray, List.set_cons_zero, List.set_cons_succ]
    refine AnyT.takeD (i := 23) (d := some 66) (v := .int .i64 V) rfl rfl (by kernel_rfl) (by kernel_rfl) (by kernel_rfl) (by kernel_rfl) (fun _ _ _ h => h) (Or.inl ⟨by rfl, fun wz _ => by go_simp⟩) F3 ?_
    simp only [Act.put, List.setIfInBounds_toArray, List.set_cons_zero, List.set_cons_succ]
    refine AnyT.takeD (i := 24) (d := some 67) (v := .bool false) rfl rfl (by kernel_rfl) (by kernel_rfl) (by kernel_rfl) (by kernel_rfl) (fun _ _ _ h => h) (Or.inl ⟨by rfl, fun wz _ => by go_simp⟩) F3 ?_
    simp only [Act.put, List.setIfInBounds_toArray, List.set_cons_zero, List.set_cons_succ]
    refine AnyT.takeD (i := 25) (d := some 68) (v := .bool false) rfl rfl (by kernel_rfl) (by kernel_rfl) (by kernel_rfl) (by kernel_rfl) (fun _ _ _ h => h) (Or.inl ⟨by rfl, fun wz _ => by go_simp⟩) F3 ?_
    simp only [Act.put, List.setIfInBounds_toArray, List.set_cons_zero, List.set_cons_succ]
    refine AnyT.done_ (by kernel_rfl) ?_ _
    clear F3 HPS
    go_wp2_with fail
    go_meet
    case rel => exact ⟨rfl, Q3⟩
  case rest =>
  obtain ⟨rfl, HC⟩ := hcut
  have HJ6 := Lib.hid (HJ5.out.below HC.out HJ5.out.lt)
  have HB6 := Lib.hid (HB5.out.trans (HC.out.mono HB5.out.size))
  clear j0 j1 jl HJ5 HB5 HC HIN hrr hvv hre
  generalize wc = w6 at *
  obtain ⟨j0, j1, jl⟩ := HJ6.out
  go_wp2_with fail
  refine (K7.out w6 (HI.out.below HB6.out)).mono ?_
  rintro e w7 ⟨v, ys, rfl, O7, hy, B7⟩
  have HJ7 := Lib.hid (HJ6.out.below B7 jl)
  have HB7 := Lib.hid (HB6.out.trans (B7.mono HB6.out.size))
  have HO7 := Lib.hid O7
  have HY := Lib.hid hy
  clear j0 j1 jl HJ6 HB6 B7 O7 hy
  obtain ⟨j0, j1, jl⟩ := HJ7.out
  go_wp2_with fail
  refine (K8.out w7 (HI.out.below HB7.out)).mono ?_
  rintro e w8 ⟨v', ys', rfl, O8, hy', B8⟩
  obtain rfl := UD.out _ _ HY.out hy'
  obtain ⟨dA, dc, rfl, DR, hdm⟩ := own_lenJ (HO7.out.below B8)
  obtain ⟨eA, ec, rfl, ER, -⟩ := own_lenJ O8
  have HJ8 := Lib.hid (HJ7.out.below B8 jl)
  have HB8 := Lib.hid (HB7.out.trans (B8.mono HB7.out.size))
  have HIN := Lib.hid (fun (W : World) (k : Below w8.heap.size w8 W) => ints_same ys dA eA dc ec W (DR.below k) (ER.below k) hdm)
  clear j0 j1 jl HJ7 HB7 B8 O8 hy' HO7 HY DR ER hdm
  obtain ⟨yl, hyl⟩ : ∃ k, k = ys.length := ⟨_, rfl⟩
  rw [← hyl] at HIN ⊢
  clear hyl
  obtain ⟨j0, j1, jl⟩ := HJ8.out
  go_wp2_with fail
  refine (K9.out w8 (HI.out.below HB8.out) (HP.out.below HB8.out)).mono ?_
  rintro e w9 ⟨rfl, B9⟩
  have HJ9 := Lib.hid (HJ8.out.below B9 jl)
  have HB9 := Lib.hid (HB8.out.trans (B9.mono HB8.out.size))
  have H89 := Lib.hid B9
  clear j0 j1 jl HJ8 B9
  obtain ⟨j0, j1, jl⟩ := HJ9.out
  go_wp2_with fail
  refine (K10.out w9 (HI.out.below HB9.out) (HP.out.below HB9.out)).mono ?_
  rintro e w10 ⟨rfl, B10⟩
  have HB10 := Lib.hid (HB9.out.trans (B10.mono HB9.out.size))
  have HZ := Lib.hid (HIN.out w10 (H89.out.trans (B10.mono H89.out.size)))
  clear j0 j1 jl B10 HIN H89 HB9 HJ9 HB8
  have hvv : (V == V) = true := by simp
  have hss : (sb == sb) = true := by simp
  have hse : (se == se) = true := by simp
  go_wp2_with fail
  refine HZ.out.mono ?_
  rintro e w11 ⟨rfl, q, rfl⟩
  go_wp2_with fail
  go_ret
  exact ⟨rfl, bdn HB10.out⟩
end Go.Proofs.Ytpimdcljecipeaa
