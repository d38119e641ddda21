/-
  Stage 11: the walk of JobExact, over the contracts of exact, four and sane.
-/
import Derived.Test.YtpimdcljecipeaaJOrd
import Derived.Test.YtpimdcljecipeaaJSpoil
import Derived.Test.YtpimdcljecipeaaJSaneA
import Derived.Test.YtpimdcljecipeaaReg
set_option linter.unusedSimpArgs false
set_option linter.unusedVariables false
namespace Go.Proofs.Ytpimdcljecipeaa
open Go.RowKit Go.Lib

def tlW (i : Nat) : Bool := false
theorem iown_noneJ {T : TypeId} {w : World} {base n c : Nat} {A : Option Addr} {l : List It} (h : IOwn T w base (.slice A n c) l) (e : A = none) : n = 0 ∧ c = 0 := by
  subst e
  rcases h.2 with ⟨q, _⟩ | ⟨g, cap, cur, q, _⟩
  · injection q with _ q2 q3
    exact ⟨q2, q3⟩
  · injection q with q1
    cases q1
/-- A job of the call's own in a box. -/
structure JS (w : World) (m b : Nat) (A : Option Addr) (L c : Nat) (wt : Int) (l : List It) : Prop where
  box : JBox w b A L c wt
  own : IOwn 44 w (m + 1) (.slice A l.length c) l
  len : L = l.length
  lt : m < b
theorem JS.step {w w' : World} {m b L c : Nat} {A : Option Addr} {wt : Int} {l : List It} (h : JS w m b A L c wt l) (k : Moves m w w') : JS w' m b A L c wt l :=
  ⟨h.box.moves k (by have := h.lt; omega), h.own.moves k (Nat.lt_succ_self _), h.len, h.lt⟩
theorem JS.below {w w' : World} {m b L c : Nat} {A : Option Addr} {wt : Int} {l : List It} (h : JS w m b A L c wt l) (k : Below w.heap.size w w') : JS w' m b A L c wt l := h.step (Moves.of_below k)
set_option maxRecDepth 100000 in
set_option maxHeartbeats 6400000 in
theorem jex_walk (A0 : Option Addr) (c0 : Nat) (zs : List Int) (jA : Option Addr) (jn jc : Nat) (jl : List It) (jwt x y : Int) (P : Option Addr) (pc T : Nat) (ts : List (List Int)) (w : World) (hr : Row .i64 w w.heap.size A0 zs) (hm : zs.length ≤ maxLen) (hw : ∀ n ∈ zs, (Lit.int .i64 n).wf = true)
    (hj : IRow w jA jl) (hjn : jn = jl.length) (hp : PP w P ts) (hT : T = ts.length) (hTm : ts.length ≤ maxLen)
    (HX : ∀ (l : List It) (A : Option Addr) (c L : Nat) (wt x y : Int) (ts : List (List Int)) (P : Option Addr) (pc T : Nat) (W : World), L = l.length → T = ts.length → ts.length ≤ maxLen → IRow W A l → PP W P ts → Calls Try.prog 7 #[jv A L c wt, .int .i64 x, .int .i64 y, .slice P T pc] W fun e w' => e = .returned (.bool true) ∧ Below W.heap.size W w')
    (HFO : ∀ W : World, Calls Try.prog 10 #[] W fun e w' => ∃ A, e = .returned (jv A 4 4 12) ∧ IRow w' A itm4 ∧ Below W.heap.size W w')
    (HSA : ∀ W : World, Calls Try.prog 11 #[] W fun e w' => e = .returned (.bool true) ∧ Below W.heap.size W w') :
    Calls Try.prog 3 #[.slice A0 zs.length c0, jv jA jn jc jwt, .int .i64 x, .int .i64 y, .slice P T pc] w fun e w' => e = .returned (.bool true) ∧ Below w.heap.size w w' := by
  have HXX := Lib.hid HX
  have HFOUR := Lib.hid HFO
  have HSANE := Lib.hid HSA
  have HEX := Lib.hid (fun (W : World) (k : Below w.heap.size w W) => HX jl jA jc jn jwt x y ts P pc T W hjn hT hTm (hj.below k) (hp.below k))
  have HEF := Lib.hid (fun (W : World) (k : Below w.heap.size w W) (fA : Option Addr) (hf : IRow W fA itm4) => HX itm4 fA 4 4 12 x y ts P pc T W rfl hT hTm hf (hp.below k))
  have BJ := (Below.refl w.heap.size w).alloc (Nat.le_refl _) (.cells #[.slice jA jn jc, .int .i64 jwt] 25)
  have HBJ := Lib.hid BJ
  have HJ := Lib.hid (JBox.new (w := w) (A := jA) (n := jn) (c := jc) (wt := jwt) w.heap.size rfl)
  have HR0 := Lib.hid (hr.below BJ)
  have HMM := Lib.hid hm
  have HWW := Lib.hid hw
  have hT9 : T ≤ 9223372036854775807 := by rw [hT]; exact hTm
  have hjn9 : jn ≤ 9223372036854775807 := by rw [hjn]; exact hj.len
  obtain ⟨b0, hb0⟩ : ∃ b, b = w.heap.size := ⟨_, rfl⟩
  clear hj hjn hp hT hTm BJ hr hw hm HX HFO HSA
  go_enter Try.func3, Try.ntmps3
  go_upto_region 1 with fail
  rw [← hb0] at HJ ⊢
  generalize w.alloc (.cells #[.slice jA jn jc, .int .i64 jwt] 25) = w0 at *
  clear hb0
  have K := Lib.hid (mk_row (c := c0) (T := 38) HR0.out HMM.out HWW.out)
  have B := Lib.hid ((Below.refl w0.heap.size w0).alloc (Nat.le_refl _) (.cells #[.slice A0 zs.length c0, .int .i64 0] 38))
  go_wp2_with fail
  refine (new_any A0 zs.length c0 w0).mono ?_
  rintro e w1 ⟨rfl, hw1⟩
  rw [← hw1] at K B
  have HBM := Lib.hid (show b0 < w0.heap.size from HJ.out.lt)
  obtain ⟨m, hmm⟩ : ∃ m, m = w0.heap.size := ⟨_, rfl⟩
  have HMW := Lib.hid (show w.heap.size ≤ m by rw [hmm]; exact HBJ.out.size)
  have HJW := Lib.hid (show ∀ W, Below m w0 W → JBox W b0 jA jn jc jwt from fun W k => HJ.out.below k (by rw [hmm]; exact HBM.out))
  have HBA := Lib.hid (show ∀ W, Below m w0 W → Below w.heap.size w W from fun W k => HBJ.out.trans (k.mono HMW.out))
  rw [← hmm] at K B ⊢
  clear hw1 hmm HJ HR0 HMM HWW HBJ HBM
  go_wp2_with fail
  go_loopw [12] (fun iv wr => ∃ (i M : Nat), i ≤ 4 ∧ iv = .int .i64 (i : Int) ∧ M ≤ 200 * i ∧ Hid (IsMk wr m M) ∧ Hid (Below m w0 wr)) (fun iv _ => 4 - (intOf iv).toNat)
  case atStart => exact ⟨0, 0, by omega, rfl, by omega, K, B⟩
  case round =>
    clear K B
    obtain ⟨i, M, hi, rfl, hM, K, B⟩ := hrel
    by_cases hlt : i < 4
    · have hii : (i : Int) < 4 := by omega
      go_wp2_with fail
      refine (mjob_any m M 12 wr K.out (by omega) (by omega)).mono ?_
      rintro e w2 ⟨pA, pc2, l, wt, rfl, O, hl, -, -, K2, V2⟩
      have hkl := K.out.lt
      have B2 := Moves.below B.out V2 (Nat.le_refl _) (Nat.le_of_lt hkl)
      have HAN := Lib.hid (fun e => iown_noneJ O e)
      have K3 := Lib.hid (K2.alloc (.cells #[.slice pA l.length pc2, .int .i64 wt] 25))
      have hmb0 := K2.lt
      have J3 := Lib.hid (show JS (w2.alloc (.cells #[.slice pA l.length pc2, .int .i64 wt] 25)) m w2.heap.size pA l.length pc2 wt l from ⟨JBox.new w2.heap.size rfl, (O.base (show m + 1 ≤ wr.heap.size from hkl)).alloc _, rfl, hmb0⟩)
      have F3 := Lib.hid (fun j => frozen_new w2 #[.slice pA l.length pc2, .int .i64 wt] 25 w2.heap.size j rfl)
      have B3 := Lib.hid (B2.alloc (Nat.le_of_lt K2.lt) (.cells #[.slice pA l.length pc2, .int .i64 wt] 25))
      have HL12 := Lib.hid hl
      obtain ⟨b, hb⟩ : ∃ b, b = w2.heap.size := ⟨_, rfl⟩
      clear K B O K2 V2 B2 hkl hmb0 hl
      go_upto_region 6 with fail
      rw [← hb] at J3 F3 ⊢
      generalize w2.alloc (.cells #[.slice pA l.length pc2, .int .i64 wt] 25) = w3 at *
      clear hb
      have hmb : m < b := J3.out.lt
      go_upto_if 23 with fail
      go_cut [] from 24 to 26 (fun wx => ∃ (A : Option Addr) (L c : Nat) (wt' : Int) (l' : List It), L ≤ 12 ∧ Hid (JS wx m b A L c wt' l') ∧ Hid (IsMk wx m (M + 5 + 5 * 12 + 4)) ∧ Hid (Below m w0 wx))
      case first =>
        by_cases hi3 : i = 3
        · subst hi3
          have hi3b : (((3 : Nat) : Int) == 3) = true := rfl
          obtain ⟨j0, j1, jlt⟩ := J3.out.box
          have f0 := F3.out 0
          have f1 := F3.out 1
          have HSP := Lib.hid (spoil_any m (M + 5 + 5 * 12) l pA pc2 l.length wt rfl (by have := HL12.out; omega) w3 K3.out (by omega) J3.out.own.irow HAN.out)
          go_wp2_with fail
          refine HSP.out.mono ?_
          rintro e w5 ⟨sA, sc, l', wt', rfl, OS, hln', K5, V5⟩
          have J5 := J3.out.box.moves V5 (by omega)
          have HLN := Lib.hid hln'
          have hbm : b ≠ m := by omega
          have g0 := (V5.frozen (p := ⟨b, 0, none⟩) jlt hbm).trans f0
          have g1 := (V5.frozen (p := ⟨b, 1, none⟩) jlt hbm).trans f1
          have hw3 : m < w3.heap.size := K3.out.lt
          rw [hln'] at OS
          have OS6 := (OS.setOther (p := ⟨b, 0, none⟩) (fun e => by have := (OS.block e).1; have : w3.heap.size ≤ b := this; omega) (.slice sA l.length sc)).setOther (p := ⟨b, 1, none⟩) (fun e => by have := (OS.block e).1; have : w3.heap.size ≤ b := this; omega) (.int .i64 wt')
          have S6 := Lib.hid (show JS ((w5.setCell ⟨b, 0, none⟩ (.slice sA l.length sc)).setCell ⟨b, 1, none⟩ (.int .i64 wt')) m b sA l.length sc wt' l' from ⟨J5.put (A' := sA) (n' := l.length) (c' := sc) (wt' := wt'), OS6.base (by omega), hln', hmb⟩)
          have K6 := Lib.hid ((K5.setCell (p := ⟨b, 0, none⟩) hmb (.slice sA l.length sc)).setCell (p := ⟨b, 1, none⟩) hmb (.int .i64 wt'))
          have B6 := Lib.hid (((Moves.below B3.out V5 (Nat.le_refl _) (Nat.le_of_lt K3.out.lt)).setCell (p := ⟨b, 0, none⟩) (Nat.le_of_lt hmb) (.slice sA l.length sc)).setCell (p := ⟨b, 1, none⟩) (Nat.le_of_lt hmb) (.int .i64 wt'))
          clear j0 j1 jlt f0 f1 OS hln' K5 V5 OS6 hw3 HSP
          obtain ⟨i0, i1, ilt⟩ := J5
          go_wp2_with fail
          go_meet
          case rel => exact ⟨sA, l.length, sc, wt', l', HL12.out, S6, Lib.hid (K6.out.more (by omega)), B6⟩
        · have hi3b : ((i : Int) == 3) = false := by simp; omega
          go_wp2_with fail
          go_meet
          case rel => exact ⟨pA, l.length, pc2, wt, l, HL12.out, J3, Lib.hid (K3.out.more (by omega)), B3⟩
      case rest =>
      obtain ⟨A, L, c, wt', l', hL12, J6, K6, B6⟩ := hcut
      clear J3 K3 B3 F3 HAN HL12
      generalize wc = w6 at *
      have hL9 : L ≤ 9223372036854775807 := by omega
      have HPS := Lib.hid (fun (X : World) (h : JS X m b A L c wt' l') => (show X.cell? ⟨b, 0, none⟩ = some (.slice A L c) ∧ X.cell? ⟨b, 1, none⟩ = some (.int .i64 wt') from ⟨h.box.c0, h.box.c1⟩))
      obtain ⟨j0, j1, jlt⟩ := J6.out.box
      go_upto_region 8 with fail
      obtain ⟨q0, e0⟩ : ∃ q, q = w6.drew := ⟨_, rfl⟩
      have S0 := Lib.hid (show JS q0 m b A L c wt' l' by rw [e0]; exact J6.out.below (Below.refl _ _).drew)
      have K0 := Lib.hid (show IsMk q0 m (M + 5 + 5 * 12 + 4) by rw [e0]; exact K6.out.stays' (Below.refl _ _).drew)
      have B0 := Lib.hid (show Below m w0 q0 by rw [e0]; exact B6.out.trans (((Below.refl w6.heap.size w6).drew).mono (Nat.le_of_lt K6.out.lt)))
      have F0 := HPS.out q0 S0.out
      have HE0 := Lib.hid e0
      clear e0 J6 K6 B6 j0 j1 jlt
      refine AnyT.begin_at tlW (fun X => X.cell? ⟨b, 0, none⟩ = some (.slice A L c) ∧ X.cell? ⟨b, 1, none⟩ = some (.int .i64 wt')) (by kernel_rfl) HE0.out F0 ?_
      clear F0 HE0
      intro F0
      refine AnyT.takeD (i := 0) (d := some 27) (v := jv A L c wt') rfl rfl (by kernel_rfl) (by kernel_rfl) (by kernel_rfl) (by kernel_rfl) (fun _ _ _ h => h) (Or.inl ⟨by rfl, fun wz hz => by obtain ⟨z0, z1⟩ := hz; go_simp⟩) F0 ?_
      simp only [Act.put, List.setIfInBounds_toArray, List.set_cons_zero, List.set_cons_succ]
      refine AnyT.takeD (i := 1) (d := some 28) (v := .pointer (some ⟨m, 0, none⟩)) rfl rfl (by kernel_rfl) (by kernel_rfl) (by kernel_rfl) (by kernel_rfl) (fun _ _ _ h => h) (Or.inl ⟨by rfl, fun wz _ => by go_simp⟩) F0 ?_
      simp only [Act.put, List.setIfInBounds_toArray, List.set_cons_zero, List.set_cons_succ]
      refine AnyT.takeD (i := 2) (d := some 29) (v := .pointer (some ⟨b, 0, none⟩)) rfl rfl (by kernel_rfl) (by kernel_rfl) (by kernel_rfl) (by kernel_rfl) (fun _ _ _ h => h) (Or.inl ⟨by rfl, fun wz _ => by go_simp⟩) F0 ?_
      simp only [Act.put, List.setIfInBounds_toArray, List.set_cons_zero, List.set_cons_succ]
      refine AnyT.takeD (i := 3) (d := some 30) (v := .slice A L c) rfl rfl (by kernel_rfl) (by kernel_rfl) (by kernel_rfl) (by kernel_rfl) (fun _ _ _ h => h) (Or.inl ⟨by rfl, fun wz hz => by obtain ⟨z0, z1⟩ := hz; go_simp⟩) F0 ?_
      simp only [Act.put, List.setIfInBounds_toArray, List.set_cons_zero, List.set_cons_succ]
      refine AnyT.takeD (i := 4) (d := some 31) (v := .int .i64 (L : Int)) rfl rfl (by kernel_rfl) (by kernel_rfl) (by kernel_rfl) (by kernel_rfl) (fun _ _ _ h => h) (Or.inl ⟨by rfl, fun wz _ => by go_simp⟩) F0 ?_
      simp only [Act.put, List.setIfInBounds_toArray, List.set_cons_zero, List.set_cons_succ]
      refine AnyT.takeD (i := 6) (d := some 33) (v := .pointer (some ⟨m, 0, none⟩)) rfl rfl (by kernel_rfl) (by kernel_rfl) (by kernel_rfl) (by kernel_rfl) (fun _ _ _ h => h) (Or.inl ⟨by rfl, fun wz _ => by go_simp⟩) F0 ?_
      simp only [Act.put, List.setIfInBounds_toArray, List.set_cons_zero, List.set_cons_succ]
      refine AnyT.takeD (i := 7) (d := some 34) (v := .pointer (some ⟨b, 0, none⟩)) rfl rfl (by kernel_rfl) (by kernel_rfl) (by kernel_rfl) (by kernel_rfl) (fun _ _ _ h => h) (Or.inl ⟨by rfl, fun wz _ => by go_simp⟩) F0 ?_
      simp only [Act.put, List.setIfInBounds_toArray, List.set_cons_zero, List.set_cons_succ]
      refine AnyT.takeD (i := 8) (d := some 35) (v := .slice A L c) rfl rfl (by kernel_rfl) (by kernel_rfl) (by kernel_rfl) (by kernel_rfl) (fun _ _ _ h => h) (Or.inl ⟨by rfl, fun wz hz => by obtain ⟨z0, z1⟩ := hz; go_simp⟩) F0 ?_
      simp only [Act.put, List.setIfInBounds_toArray, List.set_cons_zero, List.set_cons_succ]
      refine AnyT.takeD (i := 9) (d := some 36) (v := .int .i64 (L : Int)) rfl rfl (by kernel_rfl) (by kernel_rfl) (by kernel_rfl) (by kernel_rfl) (fun _ _ _ h => h) (Or.inl ⟨by rfl, fun wz _ => by go_simp⟩) F0 ?_
      simp only [Act.put, List.setIfInBounds_toArray, List.set_cons_zero, List.set_cons_succ]
      refine AnyT.takeD (i := 11) (d := some 38) (v := .pointer (some ⟨m, 0, none⟩)) rfl rfl (by kernel_rfl) (by kernel_rfl) (by kernel_rfl) (by kernel_rfl) (fun _ _ _ h => h) (Or.inl ⟨by rfl, fun wz _ => by go_simp⟩) F0 ?_
      simp only [Act.put, List.setIfInBounds_toArray, List.set_cons_zero, List.set_cons_succ]
      refine AnyT.takeD (i := 12) (d := some 39) (v := jv A L c wt') rfl rfl (by kernel_rfl) (by kernel_rfl) (by kernel_rfl) (by kernel_rfl) (fun _ _ _ h => h) (Or.inl ⟨by rfl, fun wz hz => by obtain ⟨z0, z1⟩ := hz; go_simp⟩) F0 ?_
      simp only [Act.put, List.setIfInBounds_toArray, List.set_cons_zero, List.set_cons_succ]
      refine AnyT.branch (rs := [5]) (by kernel_rfl) (by simp) ?_
      refine all_cons (?_) all_nil
      refine AnyT.enter (i := 5) (d := some 32) (f := 8) (args := #[.pointer (some ⟨m, 0, none⟩), .int .i64 (-1), .int .i64 (L : Int)]) rfl rfl rfl (by go_simp) (from_any m (M + 5 + 5 * 12 + 4) (-1) (L : Int) q0 K0.out (by omega) (by omega) (by omega) (by omega)) ?_
      rintro e q1 ⟨x1, rfl, -, -, k1, k2⟩
      have S1 := Lib.hid (S0.out.step k2)
      have K1 := Lib.hid k1
      have B1 := Lib.hid (Moves.below B0.out k2 (Nat.le_refl _) (Nat.le_of_lt K0.out.lt))
      have F1 := HPS.out q1 S1.out
      refine ⟨_, rfl, fun _ => F1, ?_⟩
      clear F0 k1 k2 S0 K0 B0
      simp only [Act.put, List.setIfInBounds_toArray, List.set_cons_zero, List.set_cons_succ]
      refine AnyT.branch (rs := [10]) (by kernel_rfl) (by simp) ?_
      refine all_cons (?_) all_nil
      refine AnyT.enter (i := 10) (d := some 37) (f := 8) (args := #[.pointer (some ⟨m, 0, none⟩), .int .i64 (-1), .int .i64 (L : Int)]) rfl rfl rfl (by go_simp) (from_any m (M + 5 + 5 * 12 + 4 + 1) (-1) (L : Int) q1 K1.out (by omega) (by omega) (by omega) (by omega)) ?_
      rintro e q2 ⟨y1, rfl, -, -, k1, k2⟩
      have S2 := Lib.hid (S1.out.step k2)
      have K2 := Lib.hid k1
      have B2 := Lib.hid (Moves.below B1.out k2 (Nat.le_refl _) (Nat.le_of_lt K1.out.lt))
      have F2 := HPS.out q2 S2.out
      refine ⟨_, rfl, fun _ => F2, ?_⟩
      clear F1 k1 k2 S1 K1 B1
      simp only [Act.put, List.setIfInBounds_toArray, List.set_cons_zero, List.set_cons_succ]
      refine AnyT.branch (rs := [13]) (by kernel_rfl) (by simp) ?_
      refine all_cons (?_) all_nil
      refine AnyT.enter (i := 13) (d := some 40) (f := 9) (args := #[.pointer (some ⟨m, 0, none⟩), jv A L c wt']) rfl rfl rfl (by go_simp) (order_any m (M + 5 + 5 * 12 + 4 + 1 + 1) l' A c L wt' S2.out.len (by omega) q2 K2.out (by omega) S2.out.own) ?_
      rintro e q3 ⟨oA, n, oc, os, rfl, hpo, hno, hn4, k1, k2⟩
      have S3 := Lib.hid (S2.out.step k2)
      have K3 := Lib.hid k1
      have B3 := Lib.hid (Moves.below B2.out k2 (Nat.le_refl _) (Nat.le_of_lt K2.out.lt))
      have F3 := HPS.out q3 S3.out
      have HEO := Lib.hid (HXX.out l' A c L wt' x1 y1 os oA oc n q3 S3.out.len hno (by unfold maxLen; omega) S3.out.own.irow hpo)
      refine ⟨_, rfl, fun _ => F3, ?_⟩
      clear F2 k1 k2 S2 K2 B2 hpo hno
      simp only [Act.put, List.setIfInBounds_toArray, List.set_cons_zero, List.set_cons_succ]
      refine AnyT.branch (rs := [14]) (by kernel_rfl) (by simp) ?_
      refine all_cons (?_) all_nil
      refine AnyT.enter (i := 14) (d := some 41) (f := 7) (args := #[jv A L c wt', .int .i64 x1, .int .i64 y1, .slice oA n oc]) rfl rfl rfl (by go_simp) HEO.out ?_
      rintro e q4 ⟨rfl, B4⟩
      have S4 := Lib.hid (S3.out.below B4)
      have K4 := Lib.hid (K3.out.stays' B4)
      have BB4 := Lib.hid (B3.out.trans (B4.mono (Nat.le_of_lt K3.out.lt)))
      have F4 := HPS.out q4 S4.out
      refine ⟨_, rfl, fun _ => F4, ?_⟩
      clear F3 S3 K3 B3 B4 HEO
      simp only [Act.put, List.setIfInBounds_toArray, List.set_cons_zero, List.set_cons_succ]
      refine AnyT.takeD (i := 15) (d := some 42) (v := .bool false) rfl rfl (by kernel_rfl) (by kernel_rfl) (by kernel_rfl) (by kernel_rfl) (fun _ _ _ h => h) (Or.inl ⟨by rfl, fun wz _ => by go_simp⟩) F4 ?_
      simp only [Act.put, List.setIfInBounds_toArray, List.set_cons_zero, List.set_cons_succ]
      refine AnyT.done_ (by kernel_rfl) ?_ _
      clear F4 HPS S4
      go_wp2_with fail
      go_roundw
      case rel => exact ⟨i + 1, _, by omega, by go_num, by omega, K4, BB4⟩
      case measure => simp [intOf]; omega
    · have hi4 : ¬ (i : Int) < 4 := by omega
      have BA := Lib.hid (HBA.out _ B.out)
      obtain ⟨j0, j1, jlt⟩ := HJW.out _ B.out
      by_cases h1 : 30 < jn
      · have h1i : (30 : Int) < (jn : Int) := by omega
        go_wp2_with fail
        go_ret
        exact ⟨rfl, BA.out⟩
      · have h1i : ¬ (30 : Int) < (jn : Int) := by omega
        by_cases h2 : 30 < T
        · have h2i : (30 : Int) < (T : Int) := by omega
          go_wp2_with fail
          go_ret
          exact ⟨rfl, BA.out⟩
        · have h2i : ¬ (30 : Int) < (T : Int) := by omega
          go_wp2_with fail
          refine (HEX.out _ BA.out).mono ?_
          rintro e wa ⟨rfl, Ba⟩
          have BA2 := Lib.hid (BA.out.trans (Ba.mono BA.out.size))
          clear j0 j1 jlt Ba
          go_wp2_with fail
          refine (HFOUR.out wa).mono ?_
          rintro e wb ⟨fA, rfl, hf, Bb⟩
          have BA3 := Lib.hid (BA2.out.trans (Bb.mono BA2.out.size))
          have HXF := Lib.hid (HEF.out wb BA3.out fA hf)
          clear hf Bb
          go_wp2_with fail
          refine HXF.out.mono ?_
          rintro e wd ⟨rfl, Bc⟩
          have BA4 := Lib.hid (BA3.out.trans (Bc.mono BA3.out.size))
          clear Bc HXF
          go_wp2_with fail
          refine (HSANE.out _).mono ?_
          rintro e wz ⟨rfl, BZ⟩
          have HZ := Lib.hid (BA4.out.trans (BZ.mono BA4.out.size))
          clear BZ
          go_wp2_with fail
          go_ret
          exact ⟨rfl, HZ.out⟩
end Go.Proofs.Ytpimdcljecipeaa
