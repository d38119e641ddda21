/-
  Stage 16: the walk of AssignMonotone.
-/
import Derived.Test.YtknkgcphamhjlaaADuW
import Derived.Test.YtknkgcphamhjlaaReg
set_option linter.unusedSimpArgs false
set_option linter.unusedVariables false
namespace Go.Proofs.Ytknkgcphamhjlaa
open Go.RowKit Go.Lib

theorem infoIntM : (Try.prog.info? 3).map (fun i => (i.zero, i.size, i.bytes)) = some (some (.int .i64 0), 1, 8) := by kernel_rfl
/-- append([]int{}, xs..) -/
theorem wpList_copyI (W : World) {ops : Array Oper} {rest : List Oper} {o : Oper} {a : Act} {Q : Exit → Act → World → Prop} (hgn : o.guard = none) (s x : Operand)
    (ho : o.op = .call { callee := .builtin .append, args := #[s, x], argTypes := #[22, 22] })
    (w0 : World) (hW : W = w0.alloc (.cells #[] 3)) (hs : a.eval s = .slice (some ⟨w0.heap.size, 0, none⟩) 0 0) (A : Option Addr) (m c : Nat) (zs : List Int) (hm : m = zs.length) (hx : a.eval x = .slice A m c) (hr : Row .i64 W W.heap.size A zs) (hA : A = none → m = 0 ∧ c = 0) (hl : m ≤ 1000000)
    (h : ∀ A' c' w', Own .i64 3 w' w0.heap.size (.slice A' m c') zs → Below w0.heap.size w0 w' → wpList Try.prog ops Q rest (a.put o.dst (.slice A' m c')) w') : wpList Try.prog ops Q (o :: rest) a W := by
  obtain ⟨i0, hi, hz0, hz1, hz2⟩ := info_parts infoIntM
  subst hm
  subst hW
  refine wpList_app_src hgn s x 22 ho w0.heap.size 3 i0 (.int .i64 0) 1 8 Try.underlying22 hi hz0 hz1 hz2 rfl (by decide) _ 0 [] hs (own_empty (Nat.le_refl _)) A zs.length c (zs.map (Value.int .i64)) hx hA (by rw [List.length_map, Nat.mul_one]) hr.newsO one_cells (by unfold maxLen; omega) (by omega) (by simp) ?_
  intro v' w' hown hg
  have O : Own .i64 3 w' w0.heap.size v' zs := by
    unfold Own
    rw [Nat.zero_add, List.nil_append] at hown
    exact hown
  obtain ⟨A', c', rfl, -⟩ := O.slice
  exact h A' c' w' O (((Below.refl w0.heap.size w0).alloc (Nat.le_refl _) _).grown hg (by simp) (fun j hj => by
    have : j = w0.heap.size := by simpa [Value.ownBlock] using hj.symm
    omega))
theorem own_nilc {k : IntKind} {e : TypeId} {w : World} {base n c : Nat} {A : Option Addr} {zs : List Int} (h : Own k e w base (.slice A n c) zs) (hA : A = none) : n = 0 ∧ c = 0 := by
  rcases h.2 with ⟨e1, h0⟩ | ⟨g, cap, cur, e1, _⟩
  · injection e1 with e1 e2 e3
    exact ⟨e2, e3⟩
  · injection e1 with e1
    rw [hA] at e1; cases e1
theorem own_at {k : IntKind} {e : TypeId} {w : World} {base n c : Nat} {A : Option Addr} {zs : List Int} (h : Own k e w base (.slice A n c) zs) (hn : 0 < zs.length) : ∃ g, A = some ⟨g, 0, none⟩ := by
  obtain ⟨A', c', e1, -, -, -, hg⟩ := h.slice
  injection e1 with e1
  obtain ⟨g, e2, _⟩ := hg hn
  exact ⟨g, e1.trans e2⟩
def tl12 (i : Nat) : Bool := i == 12
def tl9 (i : Nat) : Bool := i == 9
theorem max2_bd {z p : Int} (hz : 0 ≤ z) (hp : 0 ≤ p) : 0 ≤ max2 0 (z - p) ∧ max2 0 (z - p) ≤ z := by unfold max2; split <;> omega
/-- The loads, made shorter. -/
def Less (L : Nat) (a cs : List Int) : Prop := cs.length = L ∧ ∀ j, j < L → 0 ≤ ld cs j ∧ ld cs j ≤ ld a j
theorem Less.set {L : Nat} {a cs : List Int} (h : Less L a cs) {i : Nat} (hi : i < L) {v : Int} (h0 : 0 ≤ v) (h1 : v ≤ ld cs i) : Less L a (cs.set i v) := by
  refine ⟨by rw [List.length_set]; exact h.1, fun j hj => ?_⟩
  unfold ld at *
  rw [getD_setI (by rw [h.1]; exact hi)]
  split
  · rename_i e
    subst e
    have := (h.2 j hj).2
    exact ⟨h0, by unfold ld at this; omega⟩
  · exact h.2 j hj
def More (M : Nat) (b ds : List Int) (k : Nat) : Prop := ds.length = M ∧ ∀ j, j < M → ld b j ≤ ld ds j ∧ ld ds j ≤ ld b j + 4 ∧ (k ≤ j → ld ds j = ld b j)
theorem More.set {M : Nat} {b ds : List Int} {k : Nat} (h : More M b ds k) (hk : k < M) {p : Int} (h0 : 0 ≤ p) (h1 : p ≤ 4) : More M b (ds.set k (ld ds k + p)) (k + 1) := by
  refine ⟨by rw [List.length_set]; exact h.1, fun j hj => ?_⟩
  have h2 := h.2 j hj
  have h3 := (h.2 k hk).2.2 (Nat.le_refl k)
  unfold ld at *
  rw [getD_setI (by rw [h.1]; exact hk)]
  split
  · rename_i e
    subst e
    exact ⟨by omega, by omega, fun h => by omega⟩
  · exact ⟨h2.1, h2.2.1, fun h => h2.2.2 (by omega)⟩
theorem PP4 : ∀ z ∈ ([0, 0, 1, 4] : List Int), 0 ≤ z ∧ z ≤ 4 := by decide
set_option maxRecDepth 100000 in
set_option maxHeartbeats 6400000 in
theorem mono_walk (A : Option Addr) (c : Nat) (zs : List Int) (w : World) (hr : Row .i64 w w.heap.size A zs) (hm : zs.length ≤ maxLen) (hw : ∀ n ∈ zs, (Lit.int .i64 n).wf = true) :
    Calls Try.prog 7 #[.slice A zs.length c] w fun e w' => e = .returned (.bool true) ∧ Below w.heap.size w w' := by
  have K := Lib.hid (mk_row (c := c) (T := 52) hr hm hw)
  have B := Lib.hid ((Below.refl w.heap.size w).alloc (Nat.le_refl _) (.cells #[.slice A zs.length c, .int .i64 0] 52))
  clear hr hw
  obtain ⟨m, hmm⟩ : ∃ m, m = w.heap.size := ⟨_, rfl⟩
  go_enter Try.func7, Try.ntmps7
  go_wp2_with fail
  refine (new_any A zs.length c w).mono ?_
  rintro e w1 ⟨rfl, hw1⟩
  rw [← hw1] at K B
  rw [← hmm] at K ⊢
  have HMM := Lib.hid hmm
  clear hw1 hm hmm
  go_wp2_with fail
  refine (lists_any m 0 7 w1 K.out (by omega) (by omega)).mono ?_
  rintro e w2 ⟨va, vb, a, b, B0, rfl, oa, ob, -, -, la, lb, pa, pb, km, mv⟩
  have HB2 := Lib.hid (mv.below B.out (by rw [HMM.out]; exact Nat.le_refl _) B.out.size)
  have V := Lib.hid (vd_lists (by omega) la lb pa pb)
  have K2 := Lib.hid km
  obtain ⟨A1, c1, rfl, r1, -, m1, -⟩ := oa.slice
  obtain ⟨A2, c2, rfl, r2, -, m2, -⟩ := ob.slice
  have HN1 := Lib.hid (fun h => own_nilc oa h)
  have HN2 := Lib.hid (fun h => own_nilc ob h)
  have HMA := Lib.hid (match_any a b A1 A2 c1 c2 w2 r1 m1 r2 m2)
  have R1 := Lib.hid r1
  have R2 := Lib.hid r2
  have PAA := Lib.hid (show ∀ j, j < a.length → 0 ≤ ld a j ∧ ld a j ≤ 20 from fun j hj => pa _ (ld_mem hj))
  have PBB := Lib.hid (show ∀ j, j < b.length → 1 ≤ ld b j ∧ ld b j ≤ 30 from fun j hj => pb _ (ld_mem hj))
  obtain ⟨L, hL⟩ : ∃ n, n = a.length := ⟨_, rfl⟩
  obtain ⟨M, hM⟩ : ∃ n, n = b.length := ⟨_, rfl⟩
  have HL := Lib.hid hL
  have HM := Lib.hid hM
  rw [← hL] at HMA la HN1 PAA ⊢
  rw [← hM] at HMA lb HN2 PBB ⊢
  clear K B oa ob pa pb mv r1 r2 m1 m2 hL hM km
  go_wp2_with fail
  refine HMA.out.mono ?_
  rintro e w3 ⟨os, vl, vr, l, r, er, rfl, O, MO, -, -, b3⟩
  have R1 := Lib.hid (R1.out.below b3)
  have R2 := Lib.hid (R2.out.below b3)
  have HB3 := Lib.hid (HB2.out.trans (b3.mono HB2.out.size))
  have K3 := Lib.hid (K2.out.stays' b3)
  have HER := Lib.hid (show (er = 0 ∧ Hall a b) ∨ er = 14 by
    rcases mout_cases V.out O MO with ⟨h, _, _, H⟩ | ⟨h, _⟩
    · exact Or.inl ⟨h, H⟩
    · exact Or.inr h)
  have HM3 := Lib.hid K3.out.lt
  clear HMA O MO b3 HB2 K2
  have HCP1 := Lib.hid (R1.out.below (box1W w3 (.cells #[] 3)))
  go_wp2_with (first
    | (refine wpList_copyI _ rfl (.tmp 30) (.tmp 31) rfl w3 rfl rfl A1 L c1 a HL.out rfl HCP1.out HN1.out (by omega) ?_; intro Ac cc w4 oc bc; have OC := Lib.hid oc; have BC := Lib.hid bc; have R2b := Lib.hid ((R2.out.below bc).below (box1W w4 (.cells #[] 3))); clear oc bc)
    | (refine wpList_copyI _ rfl (.tmp 33) (.tmp 34) rfl w4 rfl rfl A2 M c2 b HM.out rfl R2b.out HN2.out (by omega) ?_; intro Ad cd w5 od bd; have OD := Lib.hid od; have BD := Lib.hid bd; clear od bd))
  have HB5 := Lib.hid (HB3.out.trans ((BC.out.trans (BD.out.mono BC.out.size)).mono HB3.out.size))
  have K5 := Lib.hid ((K3.out.stays' (BC.out.trans (BD.out.mono BC.out.size))).more (M := 18) (by omega))
  have HZ5 := Lib.hid BD.out.size
  have OC5 := Lib.hid (show ∃ cs, Less L a cs ∧ Own .i64 3 w5 w3.heap.size (.slice Ac L cc) cs from ⟨a, ⟨HL.out.symm, fun j hj => ⟨(PAA.out j hj).1, Int.le_refl _⟩⟩, OC.out.below BD.out⟩)
  have HCB := Lib.hid (show ∀ g, (Value.slice Ac L cc).ownBlock = some g → w3.heap.size ≤ g ∧ g < w4.heap.size from fun g hg => own_block OC.out hg)
  have HM4 := Lib.hid (show m < w4.heap.size from Nat.lt_of_lt_of_le HM3.out BC.out.size)
  have HBM := Lib.hid (show w.heap.size ≤ m by rw [HMM.out]; exact Nat.le_refl _)
  clear HB3 K3 BC BD R1 R2 R2b HCP1 OC HN1 HN2 B0
  go_loopw [38] (fun iv wr => ∃ i : Nat, i ≤ L ∧ iv = .int .i64 (i : Int) ∧ Hid (∃ cs, Less L a cs ∧ Own .i64 3 wr w3.heap.size (.slice Ac L cc) cs) ∧ Hid (Own .i64 3 wr w4.heap.size (.slice Ad M cd) b) ∧ Hid (IsMk wr m (18 + i)) ∧ Hid (Below w.heap.size w wr) ∧ Hid (w4.heap.size ≤ wr.heap.size)) (fun iv _ => L - (intOf iv).toNat)
  case atStart => exact ⟨0, by omega, rfl, OC5, OD, K5, HB5, HZ5⟩
  case round =>
    clear OC5 OD K5 HB5 HZ5
    obtain ⟨i, hi, rfl, OC, OD, KK, BB, SZ⟩ := hrel
    by_cases hlt : i < L
    · have hltz : (i : Int) < (L : Int) := by omega
      obtain ⟨cs, hcs, oc⟩ := OC.out
      obtain ⟨g, rfl⟩ := own_at oc (by rw [hcs.1]; omega)
      have hz := oc.cell (by rw [hcs.1]) i (by rw [hcs.1]; exact hlt)
      have hfz := oc.frozen (by rw [hcs.1]) i
      have hgw := (own_block oc (g := g) rfl).2
      obtain ⟨z, hzz⟩ : ∃ z, z = ld cs i := ⟨_, rfl⟩
      change wr.cell? _ = some (Value.int .i64 (ld cs i)) at hz
      rw [← hzz] at hz
      have hz0 : 0 ≤ z := by rw [hzz]; exact (hcs.2 i hlt).1
      have hz1 : z ≤ 20 := by have h1 := (hcs.2 i hlt).2; have h2 := (PAA.out i hlt).2; omega
      have HCS := Lib.hid hcs
      have HOC := Lib.hid oc
      have HZZ := Lib.hid hzz
      have HGW := Lib.hid hgw
      have HFZ := Lib.hid hfz
      obtain ⟨hg3, hg4⟩ := HCB.out g rfl
      have HGM := Lib.hid (show m < g by have := HM3.out; omega)
      have HG4 := Lib.hid hg4
      have HG3 := Lib.hid hg3
      clear hcs oc hzz hgw OC hfz hg3 hg4
      go_upto_region 8 with fail
      obtain ⟨q0, e0⟩ : ∃ q, q = wr.drew := ⟨_, rfl⟩
      have D0 := Lib.hid (show Below wr.heap.size wr q0 by rw [e0]; exact (Below.refl _ _).drew)
      have F0 : q0.cell? ⟨g, i, none⟩ = some (.int .i64 z) := by rw [e0]; exact hz
      have HE0 := Lib.hid e0
      clear e0 hz
      refine AnyT.begin_at tl12 (fun X => X.cell? ⟨g, i, none⟩ = some (.int .i64 z)) (by kernel_rfl) HE0.out F0 ?_
      intro F0
-- TAKES C1
      refine AnyT.takeD (i := 0) (d := some 41) (v := .slice (some ⟨g, 0, none⟩) L cc) rfl rfl (by kernel_rfl) (by kernel_rfl) (by kernel_rfl) (by kernel_rfl) (fun _ _ _ h => h) (Or.inl ⟨by rfl, fun wz _ => by go_simp⟩) F0 ?_
      simp only [Act.put, List.setIfInBounds_toArray, List.set_cons_zero, List.set_cons_succ]
      refine AnyT.takeD (i := 1) (d := some 42) (v := .int .i64 (i : Int)) rfl rfl (by kernel_rfl) (by kernel_rfl) (by kernel_rfl) (by kernel_rfl) (fun _ _ _ h => h) (Or.inl ⟨by rfl, fun wz _ => by go_simp⟩) F0 ?_
      simp only [Act.put, List.setIfInBounds_toArray, List.set_cons_zero, List.set_cons_succ]
      refine AnyT.takeD (i := 2) (d := some 43) (v := .slice (some ⟨g, 0, none⟩) L cc) rfl rfl (by kernel_rfl) (by kernel_rfl) (by kernel_rfl) (by kernel_rfl) (fun _ _ _ h => h) (Or.inl ⟨by rfl, fun wz _ => by go_simp⟩) F0 ?_
      simp only [Act.put, List.setIfInBounds_toArray, List.set_cons_zero, List.set_cons_succ]
      refine AnyT.takeD (i := 3) (d := some 44) (v := .int .i64 (i : Int)) rfl rfl (by kernel_rfl) (by kernel_rfl) (by kernel_rfl) (by kernel_rfl) (fun _ _ _ h => h) (Or.inl ⟨by rfl, fun wz _ => by go_simp⟩) F0 ?_
      simp only [Act.put, List.setIfInBounds_toArray, List.set_cons_zero, List.set_cons_succ]
      refine AnyT.takeD (i := 4) (d := some 45) (v := .pointer (some ⟨g, i, none⟩)) rfl rfl (by kernel_rfl) (by kernel_rfl) (by kernel_rfl) (by kernel_rfl) (fun _ _ _ h => h) (Or.inl ⟨by rfl, fun wz _ => by go_simp⟩) F0 ?_
      simp only [Act.put, List.setIfInBounds_toArray, List.set_cons_zero, List.set_cons_succ]
      refine AnyT.takeD (i := 5) (d := some 46) (v := .int .i64 z) rfl rfl (by kernel_rfl) (by kernel_rfl) (by kernel_rfl) (by kernel_rfl) (fun _ _ _ h => h) (Or.inl ⟨by rfl, fun wz hz => by have z0 := hz; go_simp⟩) F0 ?_
      simp only [Act.put, List.setIfInBounds_toArray, List.set_cons_zero, List.set_cons_succ]
      refine AnyT.takeD (i := 6) (d := some 47) (v := .pointer (some ⟨m, 0, none⟩)) rfl rfl (by kernel_rfl) (by kernel_rfl) (by kernel_rfl) (by kernel_rfl) (fun _ _ _ h => h) (Or.inl ⟨by rfl, fun wz _ => by go_simp⟩) F0 ?_
      simp only [Act.put, List.setIfInBounds_toArray, List.set_cons_zero, List.set_cons_succ]
-- TAKEN C1
      refine AnyT.branch (rs := [7]) (by kernel_rfl) (by simp) ?_
      refine all_cons ?_ all_nil
      obtain ⟨q1, e1⟩ : ∃ q, q = q0.alloc (.cells #[.int .i64 0, .int .i64 0, .int .i64 1, .int .i64 4] 3) := ⟨_, rfl⟩
      have D1 := Lib.hid (show Below q0.heap.size q0 q1 by rw [e1]; exact (Below.refl _ _).alloc (Nat.le_refl _) _)
      have K1 := Lib.hid ((KK.out.stays' D0.out).stays' D1.out)
      have F1 : q1.cell? ⟨g, i, none⟩ = some (.int .i64 z) := (D1.out.cell (p := ⟨g, i, none⟩) (by have := D0.out.size; have := HGW.out; show g < _; omega)).trans F0
      have HPC := Lib.hid (show ∀ j, j < 4 → ∃ y : Int, q1.cell? ⟨q0.heap.size, j, none⟩ = some (.int .i64 y) ∧ (0 ≤ y ∧ y ≤ 4) by
        rw [e1]; exact new_pick q0 3 _ [0, 0, 1, 4] PP4 _ rfl)
      have HPL := Lib.hid (show q0.heap.size < q1.heap.size by rw [e1]; simp)
      refine AnyT.yield (i := 7) (d := some 48) (v := .slice (some ⟨q0.heap.size, 0, none⟩) 4 4) (w' := q1) rfl rfl rfl (by rw [e1]; go_simp) (fun _ => F1) ?_
      clear e1
      simp only [Act.put, List.setIfInBounds_toArray, List.set_cons_zero, List.set_cons_succ]
      refine AnyT.branch (rs := [8]) (by kernel_rfl) (by simp) ?_
      refine all_cons ?_ all_nil
      refine AnyT.enter (i := 8) (d := some 49) (f := 17) (args := #[.pointer (some ⟨m, 0, none⟩), .slice (some ⟨q0.heap.size, 0, none⟩) 4 4]) rfl rfl rfl (by go_simp) (pick_any m (18 + i) (fun y => 0 ≤ y ∧ y ≤ 4) q0.heap.size 4 4 q1 K1.out (by omega) (by omega) (by omega) (by have := KK.out.lt; have := D0.out.size; omega) HPL.out HPC.out) ?_
      rintro e q2 ⟨p, rfl, ⟨hp0, hp1⟩, k2, mv2⟩
      have K2 := Lib.hid k2
      have V2 := Lib.hid mv2
      have F2 : q2.cell? ⟨g, i, none⟩ = some (.int .i64 z) := (mv2.cell (p := ⟨g, i, none⟩) (by have := D0.out.size; have := D1.out.size; have := HGW.out; show g < _; omega) (by have := HGM.out; show g ≠ m; omega)).trans F1
      have FZ2 : q2.frozen? ⟨g, i, none⟩ = false := (mv2.frozen (p := ⟨g, i, none⟩) (by have := D0.out.size; have := D1.out.size; have := HGW.out; show g < _; omega) (by have := HGM.out; show g ≠ m; omega)).trans ((D1.out.frozen (p := ⟨g, i, none⟩) (by have := D0.out.size; have := HGW.out; show g < _; omega)).trans ((D0.out.frozen (p := ⟨g, i, none⟩) HGW.out).trans HFZ.out))
      have hwp : IntKind.i64.wrap (z - p) = z - p := IntWalk.i64_in _ (by omega)
      obtain ⟨m2, hm2⟩ : ∃ y, y = max2 0 (z - p) := ⟨_, rfl⟩
      have hmx : ∀ w ts t, (Builtin.max_ ts t #[.int .i64 0, .int .i64 (z - p)]).run Try.prog w = .ok (.int .i64 m2) w := fun w ts t => by rw [run_max2, hm2]
      have HM2 := Lib.hid (show 0 ≤ m2 ∧ m2 ≤ z by rw [hm2]; exact max2_bd hz0 hp0)
      clear k2 mv2 hm2
      refine ⟨_, rfl, fun _ => F2, ?_⟩
      simp only [Act.put, List.setIfInBounds_toArray, List.set_cons_zero, List.set_cons_succ]
-- TAKES C2
      refine AnyT.takeD (i := 9) (d := some 50) (v := .int .i64 (z - p)) rfl rfl (by kernel_rfl) (by kernel_rfl) (by kernel_rfl) (by kernel_rfl) (fun _ _ _ h => h) (Or.inl ⟨by rfl, fun wz _ => by go_simp⟩) F2 ?_
      simp only [Act.put, List.setIfInBounds_toArray, List.set_cons_zero, List.set_cons_succ]
      refine AnyT.takeD (i := 10) (d := some 51) (v := .int .i64 m2) rfl rfl (by kernel_rfl) (by kernel_rfl) (by kernel_rfl) (by kernel_rfl) (fun _ _ _ h => h) (Or.inl ⟨by rfl, fun wz _ => by go_simp⟩) F2 ?_
      simp only [Act.put, List.setIfInBounds_toArray, List.set_cons_zero, List.set_cons_succ]
      refine AnyT.takeD (i := 11) (d := some 52) (v := .pointer (some ⟨g, i, none⟩)) rfl rfl (by kernel_rfl) (by kernel_rfl) (by kernel_rfl) (by kernel_rfl) (fun _ _ _ h => h) (Or.inl ⟨by rfl, fun wz _ => by go_simp⟩) F2 ?_
      simp only [Act.put, List.setIfInBounds_toArray, List.set_cons_zero, List.set_cons_succ]
-- TAKEN C2
      refine AnyT.branch (rs := [12]) (by kernel_rfl) (by simp) ?_
      refine all_cons ?_ all_nil
      refine AnyT.step (i := 12) rfl (fun KZ hKZ => ?_)
      go_simp
      refine hKZ.out _ _ (fun h => absurd h (by decide)) ?_
      refine AnyT.done_ (by kernel_rfl) ?_ _
      have hbase : Below wr.heap.size wr q1 := D0.out.trans (D1.out.mono D0.out.size)
      have HN1 := Lib.hid (show ∃ cs, Less L a cs ∧ Own .i64 3 (q2.setCell ⟨g, i, none⟩ (.int .i64 m2)) w3.heap.size (.slice (some ⟨g, 0, none⟩) L cc) cs from
        ⟨_, HCS.out.set hlt HM2.out.1 (by rw [← HZZ.out]; exact HM2.out.2), ((HOC.out.below hbase).moves V2.out HM3.out).store (by rw [HCS.out.1]) i m2⟩)
      have HN2 := Lib.hid (((OD.out.below hbase).moves V2.out HM4.out).setN (p := ⟨g, i, none⟩) (fun g' hg' => by have h1 := (own_block OD.out hg').1; have h2 := HG4.out; show g' ≠ g; omega) (.int .i64 m2))
      have HN3 := Lib.hid (K2.out.setCell (p := ⟨g, i, none⟩) HGM.out (.int .i64 m2))
      have HN4 := Lib.hid ((V2.out.below (BB.out.trans (hbase.mono BB.out.size)) HBM.out (Nat.le_trans BB.out.size hbase.size)).setCell (p := ⟨g, i, none⟩) (by have := HGM.out; have := HBM.out; show _ ≤ g; omega) (.int .i64 m2))
      have HN5 := Lib.hid (show w4.heap.size ≤ (q2.setCell ⟨g, i, none⟩ (.int .i64 m2)).heap.size by rw [World.size_setCell]; exact Nat.le_trans SZ.out (Nat.le_trans hbase.size V2.out.size))
      clear F2 FZ2 hbase
      go_wp2_with fail
      go_roundw
      case rel => exact ⟨i + 1, by omega, by go_num, HN1, HN2, HN3, HN4, HN5⟩
      case measure => simp [intOf]; omega
    · have hltz : ¬ (i : Int) < (L : Int) := by omega
      obtain ⟨cs, hcs, oc⟩ := OC.out
      have HCS := Lib.hid hcs
      have HOC := Lib.hid oc
      have KK2 := Lib.hid (KK.out.more (M := 25) (by omega))
      have OD2 := Lib.hid (show ∃ ds, More M b ds 0 ∧ Own .i64 3 wr w4.heap.size (.slice Ad M cd) ds from ⟨b, ⟨HM.out.symm, fun j hj => ⟨Int.le_refl _, by omega, fun _ => rfl⟩⟩, OD.out⟩)
      clear hcs oc OC KK OD hlt hi
      go_wp2_with fail
      clear hltz
      generalize wr = wo at *
      go_loopw [56] (fun iv wr => ∃ j : Nat, j ≤ M ∧ iv = .int .i64 (j : Int) ∧ Hid (∃ ds, More M b ds j ∧ Own .i64 3 wr w4.heap.size (.slice Ad M cd) ds) ∧ Hid (Own .i64 3 wr w3.heap.size (.slice Ac L cc) cs) ∧ Hid (IsMk wr m (25 + j)) ∧ Hid (Below w.heap.size w wr) ∧ Hid (w4.heap.size ≤ wr.heap.size)) (fun iv _ => M - (intOf iv).toNat)
      case atStart => exact ⟨0, by omega, rfl, OD2, HOC, KK2, BB, SZ⟩
      case round =>
        clear OD2 HOC KK2 BB SZ
        obtain ⟨j, hj, rfl, OD, OC, KK, BB, SZ⟩ := hrel
        by_cases hlt : j < M
        · have hltz : (j : Int) < (M : Int) := by omega
          obtain ⟨ds, hds, od⟩ := OD.out
          obtain ⟨h, rfl⟩ := own_at od (by rw [hds.1]; omega)
          have hz := od.cell (by rw [hds.1]) j (by rw [hds.1]; exact hlt)
          have hfz := od.frozen (by rw [hds.1]) j
          have hgw := (own_block od (g := h) rfl).2
          have hg4 := (own_block od (g := h) rfl).1
          obtain ⟨z, hzz⟩ : ∃ z, z = ld ds j := ⟨_, rfl⟩
          change wr.cell? _ = some (Value.int .i64 (ld ds j)) at hz
          rw [← hzz] at hz
          have hz0 : 1 ≤ z := by have h1 := (hds.2 j hlt).1; have h2 := (PBB.out j hlt).1; omega
          have hz1 : z ≤ 34 := by have h1 := (hds.2 j hlt).2.1; have h2 := (PBB.out j hlt).2; omega
          have HDS := Lib.hid hds
          have HOD := Lib.hid od
          have HZZ := Lib.hid hzz
          have HGW := Lib.hid hgw
          have HFZ := Lib.hid hfz
          have HG4 := Lib.hid hg4
          have HGM := Lib.hid (show m < h by have := HM4.out; omega)
          clear hds od hzz hgw OD hfz hg4
          go_upto_region 13 with fail
          obtain ⟨q0, e0⟩ : ∃ q, q = wr.drew := ⟨_, rfl⟩
          have D0 := Lib.hid (show Below wr.heap.size wr q0 by rw [e0]; exact (Below.refl _ _).drew)
          have F0 : q0.cell? ⟨h, j, none⟩ = some (.int .i64 z) := by rw [e0]; exact hz
          have HE0 := Lib.hid e0
          clear e0 hz
          refine AnyT.begin_at tl9 (fun X => X.cell? ⟨h, j, none⟩ = some (.int .i64 z)) (by kernel_rfl) HE0.out F0 ?_
          intro F0
-- TAKES D1
          refine AnyT.takeD (i := 0) (d := some 59) (v := .slice (some ⟨h, 0, none⟩) M cd) rfl rfl (by kernel_rfl) (by kernel_rfl) (by kernel_rfl) (by kernel_rfl) (fun _ _ _ h => h) (Or.inl ⟨by rfl, fun wz _ => by go_simp⟩) F0 ?_
          simp only [Act.put, List.setIfInBounds_toArray, List.set_cons_zero, List.set_cons_succ]
          refine AnyT.takeD (i := 1) (d := some 60) (v := .int .i64 (j : Int)) rfl rfl (by kernel_rfl) (by kernel_rfl) (by kernel_rfl) (by kernel_rfl) (fun _ _ _ h => h) (Or.inl ⟨by rfl, fun wz _ => by go_simp⟩) F0 ?_
          simp only [Act.put, List.setIfInBounds_toArray, List.set_cons_zero, List.set_cons_succ]
          refine AnyT.takeD (i := 2) (d := some 61) (v := .pointer (some ⟨h, j, none⟩)) rfl rfl (by kernel_rfl) (by kernel_rfl) (by kernel_rfl) (by kernel_rfl) (fun _ _ _ h => h) (Or.inl ⟨by rfl, fun wz _ => by go_simp⟩) F0 ?_
          simp only [Act.put, List.setIfInBounds_toArray, List.set_cons_zero, List.set_cons_succ]
          refine AnyT.takeD (i := 3) (d := some 62) (v := .int .i64 z) rfl rfl (by kernel_rfl) (by kernel_rfl) (by kernel_rfl) (by kernel_rfl) (fun _ _ _ h => h) (Or.inl ⟨by rfl, fun wz hz => by have z0 := hz; go_simp⟩) F0 ?_
          simp only [Act.put, List.setIfInBounds_toArray, List.set_cons_zero, List.set_cons_succ]
          refine AnyT.takeD (i := 4) (d := some 63) (v := .pointer (some ⟨m, 0, none⟩)) rfl rfl (by kernel_rfl) (by kernel_rfl) (by kernel_rfl) (by kernel_rfl) (fun _ _ _ h => h) (Or.inl ⟨by rfl, fun wz _ => by go_simp⟩) F0 ?_
          simp only [Act.put, List.setIfInBounds_toArray, List.set_cons_zero, List.set_cons_succ]
-- TAKEN D1
          refine AnyT.branch (rs := [5]) (by kernel_rfl) (by simp) ?_
          refine all_cons ?_ all_nil
          obtain ⟨q1, e1⟩ : ∃ q, q = q0.alloc (.cells #[.int .i64 0, .int .i64 0, .int .i64 1, .int .i64 4] 3) := ⟨_, rfl⟩
          have D1 := Lib.hid (show Below q0.heap.size q0 q1 by rw [e1]; exact (Below.refl _ _).alloc (Nat.le_refl _) _)
          have K1 := Lib.hid ((KK.out.stays' D0.out).stays' D1.out)
          have F1 : q1.cell? ⟨h, j, none⟩ = some (.int .i64 z) := (D1.out.cell (p := ⟨h, j, none⟩) (by have := D0.out.size; have := HGW.out; show h < _; omega)).trans F0
          have HPC := Lib.hid (show ∀ j, j < 4 → ∃ y : Int, q1.cell? ⟨q0.heap.size, j, none⟩ = some (.int .i64 y) ∧ (0 ≤ y ∧ y ≤ 4) by
            rw [e1]; exact new_pick q0 3 _ [0, 0, 1, 4] PP4 _ rfl)
          have HPL := Lib.hid (show q0.heap.size < q1.heap.size by rw [e1]; simp)
          refine AnyT.yield (i := 5) (d := some 64) (v := .slice (some ⟨q0.heap.size, 0, none⟩) 4 4) (w' := q1) rfl rfl rfl (by rw [e1]; go_simp) (fun _ => F1) ?_
          clear e1
          simp only [Act.put, List.setIfInBounds_toArray, List.set_cons_zero, List.set_cons_succ]
          refine AnyT.branch (rs := [6]) (by kernel_rfl) (by simp) ?_
          refine all_cons ?_ all_nil
          refine AnyT.enter (i := 6) (d := some 65) (f := 17) (args := #[.pointer (some ⟨m, 0, none⟩), .slice (some ⟨q0.heap.size, 0, none⟩) 4 4]) rfl rfl rfl (by go_simp) (pick_any m (25 + j) (fun y => 0 ≤ y ∧ y ≤ 4) q0.heap.size 4 4 q1 K1.out (by omega) (by omega) (by omega) (by have := KK.out.lt; have := D0.out.size; omega) HPL.out HPC.out) ?_
          rintro e q2 ⟨p, rfl, ⟨hp0, hp1⟩, k2, mv2⟩
          have K2 := Lib.hid k2
          have V2 := Lib.hid mv2
          have F2 : q2.cell? ⟨h, j, none⟩ = some (.int .i64 z) := (mv2.cell (p := ⟨h, j, none⟩) (by have := D0.out.size; have := D1.out.size; have := HGW.out; show h < _; omega) (by have := HGM.out; show h ≠ m; omega)).trans F1
          have FZ2 : q2.frozen? ⟨h, j, none⟩ = false := (mv2.frozen (p := ⟨h, j, none⟩) (by have := D0.out.size; have := D1.out.size; have := HGW.out; show h < _; omega) (by have := HGM.out; show h ≠ m; omega)).trans ((D1.out.frozen (p := ⟨h, j, none⟩) (by have := D0.out.size; have := HGW.out; show h < _; omega)).trans ((D0.out.frozen (p := ⟨h, j, none⟩) HGW.out).trans HFZ.out))
          have hwp : IntKind.i64.wrap (z + p) = z + p := IntWalk.i64_in _ (by omega)
          clear k2 mv2
          refine ⟨_, rfl, fun _ => F2, ?_⟩
          simp only [Act.put, List.setIfInBounds_toArray, List.set_cons_zero, List.set_cons_succ]
-- TAKES D2
          refine AnyT.takeD (i := 7) (d := some 66) (v := .int .i64 (z + p)) rfl rfl (by kernel_rfl) (by kernel_rfl) (by kernel_rfl) (by kernel_rfl) (fun _ _ _ h => h) (Or.inl ⟨by rfl, fun wz _ => by go_simp⟩) F2 ?_
          simp only [Act.put, List.setIfInBounds_toArray, List.set_cons_zero, List.set_cons_succ]
          refine AnyT.takeD (i := 8) (d := some 67) (v := .pointer (some ⟨h, j, none⟩)) rfl rfl (by kernel_rfl) (by kernel_rfl) (by kernel_rfl) (by kernel_rfl) (fun _ _ _ h => h) (Or.inl ⟨by rfl, fun wz _ => by go_simp⟩) F2 ?_
          simp only [Act.put, List.setIfInBounds_toArray, List.set_cons_zero, List.set_cons_succ]
-- TAKEN D2
          refine AnyT.branch (rs := [9]) (by kernel_rfl) (by simp) ?_
          refine all_cons ?_ all_nil
          refine AnyT.step (i := 9) rfl (fun KZ hKZ => ?_)
          go_simp
          refine hKZ.out _ _ (fun h => absurd h (by decide)) ?_
          refine AnyT.done_ (by kernel_rfl) ?_ _
          have hbase : Below wr.heap.size wr q1 := D0.out.trans (D1.out.mono D0.out.size)
          have HN1 := Lib.hid (show ∃ ds, More M b ds (j + 1) ∧ Own .i64 3 (q2.setCell ⟨h, j, none⟩ (.int .i64 (z + p))) w4.heap.size (.slice (some ⟨h, 0, none⟩) M cd) ds from
            ⟨_, HDS.out.set hlt hp0 hp1, by rw [← HZZ.out]; exact ((HOD.out.below hbase).moves V2.out HM4.out).store (by rw [HDS.out.1]) j (z + p)⟩)
          have HN2 := Lib.hid (((OC.out.below hbase).moves V2.out HM3.out).setN (p := ⟨h, j, none⟩) (fun g' hg' => by have h1 := (HCB.out g' hg').2; have h2 := HG4.out; show g' ≠ h; omega) (.int .i64 (z + p)))
          have HN3 := Lib.hid (K2.out.setCell (p := ⟨h, j, none⟩) HGM.out (.int .i64 (z + p)))
          have HN4 := Lib.hid ((V2.out.below (BB.out.trans (hbase.mono BB.out.size)) HBM.out (Nat.le_trans BB.out.size hbase.size)).setCell (p := ⟨h, j, none⟩) (by have := HGM.out; have := HBM.out; show _ ≤ h; omega) (.int .i64 (z + p)))
          have HN5 := Lib.hid (show w4.heap.size ≤ (q2.setCell ⟨h, j, none⟩ (.int .i64 (z + p))).heap.size by rw [World.size_setCell]; exact Nat.le_trans SZ.out (Nat.le_trans hbase.size V2.out.size))
          clear F2 FZ2 hbase
          go_wp2_with fail
          go_roundw
          case rel => exact ⟨j + 1, by omega, by go_num, HN1, HN2, HN3, HN4, HN5⟩
          case measure => simp [intOf]; omega
        · have hltz : ¬ (j : Int) < (M : Int) := by omega
          obtain ⟨ds, hds, od⟩ := OD.out
          have HDS := Lib.hid hds
          have HOD := Lib.hid od
          clear hds od OD hlt
          go_wp2_with fail
          refine (from_any m (25 + j) 1 20 wr KK.out (by omega) (by omega) (by omega) (by omega)).mono ?_
          rintro e w6 ⟨x, rfl, x1, x2, k6, mv6⟩
          have OD6 := Lib.hid (HOD.out.moves mv6 HM4.out)
          have OC6 := Lib.hid (OC.out.moves mv6 HM3.out)
          have BB6 := Lib.hid (mv6.below BB.out HBM.out BB.out.size)
          have HLN := Lib.hid (show ds.length + 1 ≤ 1000000000 by rw [HDS.out.1]; omega)
          have HS6 := Lib.hid (Nat.le_trans SZ.out mv6.size)
          clear k6 mv6 HOD OC BB KK hltz hj
          go_wp2_with (first | (at_builtin; refine wpList_appI _ rfl (.tmp 69) (.tmp 72) rfl w4.heap.size _ ds rfl (OD6.out.alloc _) x w6 rfl _ rfl 1 rfl HLN.out (le_allocW (w := w6) HS6.out) ?_; intro v7 w7 A7; have OD7 := Lib.hid A7.1; have OC7 := Lib.hid ((OC6.out.alloc (.cells #[.int .i64 x] 3)).kept A7.2.1 (by
            cases hq : (Value.slice Ac L cc).ownBlock with
            | none => exact Or.inl rfl
            | some q => exact Or.inr (fun e => by have h1 := (HCB.out q hq).2; have h2 := (own_block OD6.out e.symm).1; omega))); have BB7 := Lib.hid ((BB6.out.alloc BB6.out.size (.cells #[.int .i64 x] 3)).grown A7.2.1 (le_allocW BB6.out.size) (fun k hk => by have h2 := (own_block OD6.out hk).1; have := HM4.out; have := HBM.out; omega)); clear A7))
          obtain ⟨A7, c7, rfl, r7, -, m7, -⟩ := OD7.out.slice
          obtain ⟨A8, c8, e8, r8, -, m8, -⟩ := OC7.out.slice
          injection e8 with e8
          subst e8
          have V2 := Lib.hid (show Vd cs (ds ++ [x]) from ⟨by rw [HCS.out.1]; omega, by rw [List.length_append, HDS.out.1]; simp; omega, fun z hz => by
            obtain ⟨k, hk, e⟩ := List.getElem_of_mem hz
            have h1 := HCS.out.2 k (by rw [← HCS.out.1]; exact hk)
            have h2 := PAA.out k (by rw [← HCS.out.1]; exact hk)
            have e2 : ld cs k = z := by unfold ld; rw [List.getD_eq_getElem?_getD, List.getElem?_eq_getElem hk]; exact e
            rw [e2] at h1
            omega, fun z hz => by
            rcases List.mem_append.1 hz with hz | hz
            · obtain ⟨k, hk, e⟩ := List.getElem_of_mem hz
              have h1 := HDS.out.2 k (by rw [← HDS.out.1]; exact hk)
              have h2 := PBB.out k (by rw [← HDS.out.1]; exact hk)
              have e2 : ld ds k = z := by unfold ld; rw [List.getD_eq_getElem?_getD, List.getElem?_eq_getElem hk]; exact e
              rw [e2] at h1
              omega
            · rw [List.mem_singleton] at hz
              omega⟩)
          have HMN := Lib.hid (show Hall a b → Hall cs (ds ++ [x]) from fun H => hall_mono (by rw [HCS.out.1, HL.out]) (fun i hi => (HCS.out.2 i (by rw [HL.out]; exact hi)).2) (by rw [List.length_append, HDS.out.1, HM.out]; simp) (fun i hi => by
            have h1 := (HDS.out.2 i (by rw [HM.out]; exact hi)).1
            have h2 : ld (ds ++ [x]) i = ld ds i := by
              unfold ld
              rw [List.getD_eq_getElem?_getD, List.getElem?_append_left (by rw [HDS.out.1, HM.out]; exact hi), ← List.getD_eq_getElem?_getD]
            omega) H)
          obtain ⟨M7, hM7⟩ : ∃ n, n = (ds ++ [x]).length := ⟨_, rfl⟩
          have HMB := Lib.hid (match_n cs (ds ++ [x]) L M7 HCS.out.1.symm hM7 Ac A7 cc c7 w7 r8 (by unfold maxLen; omega) r7 (by rw [hM7]; exact m7))
          rw [← hM7]
          clear hM7 r7 r8 m7 m8 OD7 OC7 OD6 OC6 BB6 HDS HCS
          go_wp2_with fail
          refine HMB.out.mono ?_
          rintro e w8 ⟨os2, vl2, vr2, l2, r2, er2, rfl, O2, MO2, -, -, b8⟩
          have HB8 := Lib.hid (BB7.out.trans (b8.mono BB7.out.size))
          have HE2 := Lib.hid (mout_cases V2.out O2 MO2)
          clear HMB O2 MO2 b8 BB7
          rcases HER.out with ⟨rfl, H⟩ | rfl
          · have he2 : er2 = 0 := by
              rcases HE2.out with ⟨h, _⟩ | ⟨_, _, _, _, h, _⟩
              · exact h
              · exact absurd (HMN.out H) h
            subst he2
            clear H HE2 HER
            go_wp2_with fail
            refine (sane_any w8).mono ?_
            rintro e w9 ⟨rfl, b9⟩
            have HB9 := Lib.hid (HB8.out.trans (b9.mono HB8.out.size))
            clear b9
            go_wp2_with fail
            go_ret
            exact ⟨rfl, HB9.out⟩
          · clear HE2 HER
            go_wp2_with fail
            refine (sane_any w8).mono ?_
            rintro e w9 ⟨rfl, b9⟩
            have HB9 := Lib.hid (HB8.out.trans (b9.mono HB8.out.size))
            clear b9
            go_wp2_with fail
            go_ret
            exact ⟨rfl, HB9.out⟩
end Go.Proofs.Ytknkgcphamhjlaa
