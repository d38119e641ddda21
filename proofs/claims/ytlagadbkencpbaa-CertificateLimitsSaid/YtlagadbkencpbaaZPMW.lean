/-
  Stage 15: the walk of CertificateLimits.
-/
import Derived.Test.YtlagadbkencpbaaBA2
import Derived.Test.YtlagadbkencpbaaBA3
import Derived.Test.YtlagadbkencpbaaBA4
import Derived.Test.YtlagadbkencpbaaBA1
set_option linter.unusedSimpArgs false
set_option linter.unusedVariables false
namespace Go.Proofs.Ytlagadbkencpbaa
open Go.RowKit Go.Lib

def TrueW (_ : World) : Prop := True
theorem TrueW.i (w : World) : TrueW w := trivial
/-- A proof of the law's own: its box, its two lists. -/
structure LS (w1 W : World) (gp gv gu N M : Nat) (vs us : List Int) : Prop where
  box : QBox W gp 12 (some ⟨gv, 0, none⟩) N N (some ⟨gu, 0, none⟩) M M
  ov : Own .i64 3 W w1.heap.size (.slice (some ⟨gv, 0, none⟩) N N) vs
  ou : Own .i64 3 W w1.heap.size (.slice (some ⟨gu, 0, none⟩) M M) us
  lv : vs.length = N
  lu : us.length = M
  n1 : gv ≠ gp
  n2 : gu ≠ gp
  n3 : gv ≠ gu
  bel : Below w1.heap.size w1 W
theorem LS.below {w1 W W' : World} {gp gv gu N M : Nat} {vs us : List Int} (h : LS w1 W gp gv gu N M vs us) (k : Below W.heap.size W W') : LS w1 W' gp gv gu N M vs us :=
  ⟨h.box.below k h.box.lt, h.ov.below k, h.ou.below k, h.lv, h.lu, h.n1, h.n2, h.n3, h.bel.trans (k.mono h.bel.size)⟩
theorem QBox.setO {w : World} {b n c m d : Nat} {st : Int} {A B : Option Addr} (h : QBox w b st A n c B m d) {p : Addr} (hp : p.block ≠ b) (u : Value) : QBox (w.setCell p u) b st A n c B m d :=
  have e : ∀ j, (⟨b, j, none⟩ : Addr) ≠ p := fun j e => hp (congrArg Addr.block e).symm
  ⟨by rw [World.cell?_setCell_other _ _ _ _ (Ne.symm (e _))]; exact h.c0, by rw [World.cell?_setCell_other _ _ _ _ (Ne.symm (e _))]; exact h.c1, by rw [World.cell?_setCell_other _ _ _ _ (Ne.symm (e _))]; exact h.c2, fun j => by rw [World.frozen?_setCell]; exact h.f j, by rw [World.size_setCell]; exact h.lt⟩
theorem LS.setV {w1 W : World} {gp gv gu N M : Nat} {vs us : List Int} (h : LS w1 W gp gv gu N M vs us) (j : Nat) (x : Int) : LS w1 (W.setCell ⟨gv, j, none⟩ (.int .i64 x)) gp gv gu N M (vs.set j x) us :=
  ⟨h.box.setO h.n1 _, h.ov.store h.lv.symm j x, h.ou.setN (p := ⟨gv, j, none⟩) (fun g e => (show gu = g by simpa [Value.ownBlock] using e) ▸ h.n3.symm) _, by rw [List.length_set]; exact h.lv, h.lu, h.n1, h.n2, h.n3, h.bel.setCell (p := ⟨gv, j, none⟩) (own_block h.ov rfl).1 _⟩
theorem LS.setU {w1 W : World} {gp gv gu N M : Nat} {vs us : List Int} (h : LS w1 W gp gv gu N M vs us) (j : Nat) (x : Int) : LS w1 (W.setCell ⟨gu, j, none⟩ (.int .i64 x)) gp gv gu N M vs (us.set j x) :=
  ⟨h.box.setO h.n2 _, h.ov.setN (p := ⟨gu, j, none⟩) (fun g e => (show gv = g by simpa [Value.ownBlock] using e) ▸ h.n3) _, h.ou.store h.lu.symm j x, h.lv, by rw [List.length_set]; exact h.lu, h.n1, h.n2, h.n3, h.bel.setCell (p := ⟨gu, j, none⟩) (own_block h.ou rfl).1 _⟩
theorem LS.rows {w1 W : World} {gp gv gu N M : Nat} {vs us : List Int} (h : LS w1 W gp gv gu N M vs us) : Row .i64 W W.heap.size (some ⟨gv, 0, none⟩) vs ∧ Row .i64 W W.heap.size (some ⟨gu, 0, none⟩) us := by
  obtain ⟨A, c, e, R, _⟩ := h.ov.slice
  obtain ⟨A', c', e', R', _⟩ := h.ou.slice
  injection e with e1
  injection e' with e1'
  subst e1
  subst e1'
  exact ⟨R, R'⟩
theorem zero3 {W : World} {b : Nat} {T : TypeId} (h : W.heap[b]? = some (.cells #[.int .i64 0, .slice none 0 0, .slice none 0 0] T (0, 0))) :
    W.cell? ⟨b, 0, none⟩ = some (.int .i64 0) ∧ W.cell? ⟨b, 1, none⟩ = some (.slice none 0 0) ∧ W.cell? ⟨b, 2, none⟩ = some (.slice none 0 0) ∧ ∀ j, W.frozen? ⟨b, j, none⟩ = false :=
  ⟨cell_of h rfl, cell_of h rfl, cell_of h rfl, fun j => by unfold World.frozen?; rw [h]; rfl⟩
theorem own_rep {W : World} {g n base : Nat} (h : W.heap[g]? = some (.cells ((List.replicate n 0).map (Value.int .i64)).toArray 3 (0, 0))) (hb : base ≤ g) (hn : n ≤ 1000) : Own .i64 3 W base (.slice (some ⟨g, 0, none⟩) n n) (List.replicate n 0) := by
  have := show W.ownsRow base 3 1 (.slice (some ⟨g, 0, none⟩) n n) n ((List.replicate n 0).map (Value.int .i64)) from
    ⟨by simp, Or.inr ⟨g, n, _, rfl, hb, h, Nat.le_refl _, by unfold maxLen; omega, by simp, by simp⟩⟩
  unfold Own
  rwa [List.length_replicate]
theorem lim_new {w1 W : World} {gv gu gp N M : Nat} (hb : Below w1.heap.size w1 W) (hv : Got w1 W gv (.cells ((List.replicate N 0).map (Value.int .i64)).toArray 3)) (hu : Got w1 W gu (.cells ((List.replicate M 0).map (Value.int .i64)).toArray 3)) (hp : Got w1 W gp (qcells 0 none 0 0 none 0 0))
    (n1 : gv ≠ gp) (n2 : gu ≠ gp) (n3 : gv ≠ gu) (hN : N ≤ 1000 := by omega) (hM : M ≤ 1000 := by omega) : LS w1 (((W.setCell ⟨gp, 0, none⟩ (.int .i64 12)).setCell ⟨gp, 1, none⟩ (.slice (some ⟨gv, 0, none⟩) N N)).setCell ⟨gp, 2, none⟩ (.slice (some ⟨gu, 0, none⟩) M M)) gp gv gu N M (List.replicate N 0) (List.replicate M 0) := by
  obtain ⟨z0, z1, z2, zf⟩ := zero3 hp.at_
  have Q : QBox W gp 0 none 0 0 none 0 0 := ⟨z0, z1, z2, zf, hp.lt⟩
  have nv : ∀ g, (Value.slice (some ⟨gv, 0, none⟩) N N).ownBlock = some g → g ≠ gp := fun g e => by
    have e' : gv = g := by simpa [Value.ownBlock] using e
    rw [← e']; exact n1
  have nu : ∀ g, (Value.slice (some ⟨gu, 0, none⟩) M M).ownBlock = some g → g ≠ gp := fun g e => by
    have e' : gu = g := by simpa [Value.ownBlock] using e
    rw [← e']; exact n2
  refine ⟨Q.put _ _ _ _ _ _ _, ?_, ?_, by simp, by simp, n1, n2, n3, ?_⟩
  · exact (((own_rep hv.at_ hv.le hN).setN (p := ⟨gp, 0, none⟩) nv _).setN (p := ⟨gp, 1, none⟩) nv _).setN (p := ⟨gp, 2, none⟩) nv _
  · exact (((own_rep hu.at_ hu.le hM).setN (p := ⟨gp, 0, none⟩) nu _).setN (p := ⟨gp, 1, none⟩) nu _).setN (p := ⟨gp, 2, none⟩) nu _
  · exact ((hb.setCell (p := ⟨gp, 0, none⟩) hp.le _).setCell (p := ⟨gp, 1, none⟩) hp.le _).setCell (p := ⟨gp, 2, none⟩) hp.le _
/-- The codes and the chain of the law. -/
def dwn (n : Nat) : List Int := (List.range n).map fun (i : Nat) => 4095 - (i : Int)
def rng (n : Nat) : List Int := (List.range n).map fun (i : Nat) => (i : Int) % 96
theorem dwn_at {n k : Nat} (hk : k < n) : (dwn n).getD k 0 = 4095 - (k : Int) := by
  unfold dwn; rw [List.getD_eq_getElem?_getD, List.getElem?_map, List.getElem?_range hk]; rfl
theorem rng_at {n k : Nat} (hk : k < n) : (rng n).getD k 0 = (k : Int) % 96 := by
  unfold rng; rw [List.getD_eq_getElem?_getD, List.getElem?_map, List.getElem?_range hk]; rfl
theorem dwn_len (n : Nat) : (dwn n).length = n := by unfold dwn; rw [List.length_map, List.length_range]
theorem rng_len (n : Nat) : (rng n).length = n := by unfold rng; rw [List.length_map, List.length_range]
theorem lim_enc {N M : Nat} (hN : N ≤ 97) (hM : M ≤ 97) : encE 12 (dwn N) (rng M) = if 96 < N ∨ 96 < M then 3 else 0 := by
  unfold encE
  rw [dwn_len, rng_len]
  by_cases h : 96 < N ∨ 96 < M
  · rw [if_pos h, if_pos h]
  · rw [if_neg h, if_neg h, if_pos]
    unfold encB
    rw [Bool.and_eq_true, Bool.and_eq_true]
    refine ⟨by decide, uptoB_iff.2 fun x hx => ?_, uptoB_iff.2 fun x hx => ?_⟩
    · rw [dwn_len] at hx; rw [dwn_at hx]; omega
    · rw [rng_len] at hx; rw [rng_at hx]; omega
theorem lim_no {N M k : Nat} (hN : N ≤ 96) (hM : M ≤ 96) (hk : k < N) : encE 12 ((dwn N).set k 4096) (rng M) = 2 := by
  unfold encE
  rw [List.length_set, dwn_len, rng_len, if_neg (by omega), if_neg]
  unfold encB
  rw [Bool.and_eq_true, Bool.and_eq_true]
  intro h
  have := uptoB_iff.1 h.2.1 k (by rw [List.length_set, dwn_len]; exact hk)
  rw [getD_set _ _ _ _ (by rw [dwn_len]; exact hk), if_pos rfl] at this
  omega
theorem Own.capm {k : IntKind} {e : TypeId} {w : World} {base n c : Nat} {A : Option Addr} {zs : List Int} (h : Own k e w base (.slice A n c) zs) : n ≤ c ∧ c ≤ maxLen := by
  rcases h.2 with ⟨e, h0⟩ | ⟨g, cap, cur, e, _, _, h4, h5, _⟩
  · injection e with _ e1 e2
    subst e1; subst e2
    exact ⟨Nat.le_refl _, Nat.zero_le _⟩
  · injection e with _ e1 e2
    subst e1; subst e2
    exact ⟨h4, h5⟩
theorem set_back {zs : List Int} {k : Nat} {x : Int} (hk : k < zs.length) : (zs.set k x).set k (zs.getD k 0) = zs := by
  rw [List.set_set]
  refine same_getD (by rw [List.length_set]) fun t ht => ?_
  rw [getD_set _ _ _ _ hk]
  by_cases e : t = k
  · rw [if_pos e, e]
  · rw [if_neg e]

set_option maxRecDepth 100000 in
set_option maxHeartbeats 6400000 in
theorem lim_walk (n m : Int) (w1 : World) (hn1 : -9223372036854775808 ≤ n) (hn2 : n ≤ 9223372036854775807) (hb1 : -9223372036854775808 ≤ m) (hb2 : m ≤ 9223372036854775807) :
    Calls Try.prog 3 #[.int .i64 n, .int .i64 m] w1 fun e w' => e = .returned (.bool true) ∧ Below w1.heap.size w1 w' := by
  have a1 := tmod_bd n 3 (by decide)
  have a3 := tmod_bd m 3 (by decide)
  have c1 := Int.emod_nonneg (n.tmod 3 + 3) (show (3 : Int) ≠ 0 by decide)
  have c2 := Int.emod_lt_of_pos (n.tmod 3 + 3) (show (0 : Int) < 3 by decide)
  have c3 := Int.emod_nonneg (m.tmod 3 + 3) (show (3 : Int) ≠ 0 by decide)
  have c4 := Int.emod_lt_of_pos (m.tmod 3 + 3) (show (0 : Int) < 3 by decide)
  have hz5 : (n.tmod 3 + 3).tmod 3 = (n.tmod 3 + 3) % 3 := by rw [Int.tmod_eq_emod_of_nonneg (by omega)]
  have hz6 : (m.tmod 3 + 3).tmod 3 = (m.tmod 3 + 3) % 3 := by rw [Int.tmod_eq_emod_of_nonneg (by omega)]
  go_enter Try.func3, Try.ntmps3
  go_upto_region 2 with fail
  obtain ⟨N, hN⟩ : ∃ N : Nat, 95 + n.tmod 3 % 3 = (N : Int) := ⟨(95 + n.tmod 3 % 3).toNat, by omega⟩
  obtain ⟨M, hM⟩ : ∃ M : Nat, 95 + m.tmod 3 % 3 = (M : Int) := ⟨(95 + m.tmod 3 % 3).toNat, by omega⟩
  rw [hN, hM]
  have hN1 : 95 ≤ N ∧ N ≤ 97 := by omega
  have hM1 : 95 ≤ M ∧ M ≤ 97 := by omega
  clear hN hM c1 c2 c3 c4 hz5 hz6 a1 a3
  generalize n.tmod 3 % 3 = d0
  generalize m.tmod 3 % 3 = d1
  generalize n.tmod 3 = d2
  generalize m.tmod 3 = d3
  generalize d2 + 3 = d4
  generalize d3 + 3 = d5
  have hmkN := fun W => make_ints W N (by omega)
  have hmkM := fun W => make_ints W M (by omega)
  obtain ⟨csN, hcN⟩ : ∃ c, c = ((List.replicate N 0).map (Value.int .i64)).toArray := ⟨_, rfl⟩
  obtain ⟨csM, hcM⟩ : ∃ c, c = ((List.replicate M 0).map (Value.int .i64)).toArray := ⟨_, rfl⟩
  have HCN := Lib.hid hcN
  have HCM := Lib.hid hcM
  rw [← hcN] at hmkN
  rw [← hcM] at hmkM
  clear hcN hcM
  go_cut [5] from 24 to 28 (fun pp wx => ∃ gp gv gu, pp = .pointer (some ⟨gp, 0, none⟩) ∧ Hid (LS w1 wx gp gv gu N M (List.replicate N 0) (List.replicate M 0)))
  case first =>
    obtain ⟨q0, e0⟩ : ∃ q, q = w1.drew := ⟨_, rfl⟩
    have HB0 := Lib.hid (show Below w1.heap.size w1 q0 by rw [e0]; exact ⟨rfl, rfl, rfl, Nat.le_refl _, fun _ _ => rfl⟩)
    have HE0 := Lib.hid e0
    clear e0
    refine AnyT.begin_at (tlGe 6) TrueW (by kernel_rfl) HE0.out (TrueW.i _) ?_
    intro F0
    refine AnyT.takeD (i := 0) (d := some 24) (v := .int .i64 (N : Int)) rfl rfl (by kernel_rfl) (by kernel_rfl) (by kernel_rfl) (by kernel_rfl) (fun _ _ _ h => h) (Or.inl ⟨by rfl, fun wz _ => by go_simp⟩) F0 ?_
    simp only [Act.put, List.setIfInBounds_toArray, List.set_cons_zero, List.set_cons_succ]
    refine AnyT.takeD (i := 2) (d := some 26) (v := .int .i64 (M : Int)) rfl rfl (by kernel_rfl) (by kernel_rfl) (by kernel_rfl) (by kernel_rfl) (fun _ _ _ h => h) (Or.inl ⟨by rfl, fun wz _ => by go_simp⟩) F0 ?_
    simp only [Act.put, List.setIfInBounds_toArray, List.set_cons_zero, List.set_cons_succ]
    refine AnyT.branch (rs := [1, 3, 5]) (by kernel_rfl) (by simp) ?_
    refine (all_cons ?_ (all_cons ?_ (all_cons ?_ all_nil)))
    · obtain ⟨q1, e1⟩ : ∃ q, q = q0.alloc (.cells csN 3) := ⟨_, rfl⟩
      have HB1 := Lib.hid (show Below w1.heap.size w1 q1 by rw [e1]; exact HB0.out.alloc HB0.out.size _)
      have HU1 := Lib.hid (show Below q0.heap.size q0 q1 by rw [e1]; exact (Below.refl _ _).alloc (Nat.le_refl _) _)
      have HGM1 := Lib.hid (Got.new HB0.out e1)
      refine AnyT.yield (i := 1) (d := some 25) (v := .slice (some ⟨q0.heap.size, 0, none⟩) N N) (w' := q1) rfl rfl rfl (by rw [e1]; go_simp) (fun _ => TrueW.i _) ?_
      clear e1
      simp only [Act.put, List.setIfInBounds_toArray, List.set_cons_zero, List.set_cons_succ]
      refine AnyT.branch (rs := [3, 5]) (by kernel_rfl) (by simp) ?_
      refine (all_cons ?_ (all_cons ?_ all_nil))
      · obtain ⟨q2, e2⟩ : ∃ q, q = q1.alloc (.cells csM 3) := ⟨_, rfl⟩
        have HB2 := Lib.hid (show Below w1.heap.size w1 q2 by rw [e2]; exact HB1.out.alloc HB1.out.size _)
        have HU2 := Lib.hid (show Below q1.heap.size q1 q2 by rw [e2]; exact (Below.refl _ _).alloc (Nat.le_refl _) _)
        have HGU2 := Lib.hid (Got.new HB1.out e2)
        have HGM2 := Lib.hid (HGM1.out.below HU2.out)
        refine AnyT.yield (i := 3) (d := some 27) (v := .slice (some ⟨q1.heap.size, 0, none⟩) M M) (w' := q2) rfl rfl rfl (by rw [e2]; go_simp) (fun _ => TrueW.i _) ?_
        clear e2
        simp only [Act.put, List.setIfInBounds_toArray, List.set_cons_zero, List.set_cons_succ]
        refine AnyT.branch (rs := [4, 5]) (by kernel_rfl) (by simp) ?_
        refine (all_cons ?_ (all_cons ?_ all_nil))
        · refine AnyT.enter (i := 4) (d := some 28) (f := 8) (args := #[.int .i64 12, .slice (some ⟨q0.heap.size, 0, none⟩) N N, .slice (some ⟨q1.heap.size, 0, none⟩) M M]) rfl rfl rfl (by go_simp) (proofF_any 12 _ _ N N M M q2) ?_
          rintro e q3 ⟨rfl, bz⟩
          have HB3 := Lib.hid (HB2.out.trans (bz.mono HB2.out.size))
          have HGM3 := Lib.hid (HGM2.out.below bz)
          have HGU3 := Lib.hid (HGU2.out.below bz)
          clear bz
          refine ⟨_, rfl, fun _ => TrueW.i _, ?_⟩
          simp only [Act.put, List.setIfInBounds_toArray, List.set_cons_zero, List.set_cons_succ]
          refine AnyT.branch (rs := [5]) (by kernel_rfl) (by simp) ?_
          refine (all_cons ?_ all_nil)
          · obtain ⟨q4, e4⟩ : ∃ q, q = q3.alloc (qcells 0 none 0 0 none 0 0) := ⟨_, rfl⟩
            have HB4 := Lib.hid (show Below w1.heap.size w1 q4 by rw [e4]; exact HB3.out.alloc HB3.out.size _)
            have HU4 := Lib.hid (show Below q3.heap.size q3 q4 by rw [e4]; exact (Below.refl _ _).alloc (Nat.le_refl _) _)
            have HGA4 := Lib.hid (Got.new HB3.out e4)
            have HGM4 := Lib.hid (HGM3.out.below HU4.out)
            have HGU4 := Lib.hid (HGU3.out.below HU4.out)
            refine AnyT.yield (i := 5) (d := some 5) (v := .pointer (some ⟨q3.heap.size, 0, none⟩)) (w' := q4) rfl rfl rfl (by rw [e4]; go_simp) (fun _ => TrueW.i _) ?_
            clear e4
            simp only [Act.put, List.setIfInBounds_toArray, List.set_cons_zero, List.set_cons_succ]
            have HFN := Lib.hid (lim_new HB4.out (by have := HGM4.out; rwa [HCN.out] at this) (by have := HGU4.out; rwa [HCM.out] at this) HGA4.out (Nat.ne_of_lt HGM3.out.lt) (Nat.ne_of_lt HGU3.out.lt) (Nat.ne_of_lt HGM1.out.lt))
            obtain ⟨x0, x1, x2, xf⟩ := zero3 HGA4.out.at_
            have xf0 := xf 0
            have xf1 := xf 1
            have xf2 := xf 2
            clear xf
            refine AnyT.branch (rs := [6]) (by kernel_rfl) (by simp) ?_
            refine all_cons (?_) all_nil
            refine AnyT.step (i := 6) rfl (fun KK hK => ?_)
            go_simp
            refine hK.out _ _ (fun _ => TrueW.i _) ?_
            clear hK KK x0 x1 x2 xf0 xf1 xf2
            refine AnyT.done_ (by kernel_rfl) ?_ _
            go_wp2_with fail
            go_meet
            case rel => exact ⟨_, _, _, rfl, HFN⟩
        · obtain ⟨q3, e3⟩ : ∃ q, q = q2.alloc (qcells 0 none 0 0 none 0 0) := ⟨_, rfl⟩
          have HB3 := Lib.hid (show Below w1.heap.size w1 q3 by rw [e3]; exact HB2.out.alloc HB2.out.size _)
          have HU3 := Lib.hid (show Below q2.heap.size q2 q3 by rw [e3]; exact (Below.refl _ _).alloc (Nat.le_refl _) _)
          have HGA3 := Lib.hid (Got.new HB2.out e3)
          have HGM3 := Lib.hid (HGM2.out.below HU3.out)
          have HGU3 := Lib.hid (HGU2.out.below HU3.out)
          refine AnyT.yield (i := 5) (d := some 5) (v := .pointer (some ⟨q2.heap.size, 0, none⟩)) (w' := q3) rfl rfl rfl (by rw [e3]; go_simp) (fun _ => TrueW.i _) ?_
          clear e3
          simp only [Act.put, List.setIfInBounds_toArray, List.set_cons_zero, List.set_cons_succ]
          refine AnyT.branch (rs := [4]) (by kernel_rfl) (by simp) ?_
          refine (all_cons ?_ all_nil)
          · refine AnyT.enter (i := 4) (d := some 28) (f := 8) (args := #[.int .i64 12, .slice (some ⟨q0.heap.size, 0, none⟩) N N, .slice (some ⟨q1.heap.size, 0, none⟩) M M]) rfl rfl rfl (by go_simp) (proofF_any 12 _ _ N N M M q3) ?_
            rintro e q4 ⟨rfl, bz⟩
            have HB4 := Lib.hid (HB3.out.trans (bz.mono HB3.out.size))
            have HGM4 := Lib.hid (HGM3.out.below bz)
            have HGU4 := Lib.hid (HGU3.out.below bz)
            have HGA4 := Lib.hid (HGA3.out.below bz)
            clear bz
            refine ⟨_, rfl, fun _ => TrueW.i _, ?_⟩
            simp only [Act.put, List.setIfInBounds_toArray, List.set_cons_zero, List.set_cons_succ]
            have HFN := Lib.hid (lim_new HB4.out (by have := HGM4.out; rwa [HCN.out] at this) (by have := HGU4.out; rwa [HCM.out] at this) HGA4.out (Nat.ne_of_lt HGM2.out.lt) (Nat.ne_of_lt HGU2.out.lt) (Nat.ne_of_lt HGM1.out.lt))
            obtain ⟨x0, x1, x2, xf⟩ := zero3 HGA4.out.at_
            have xf0 := xf 0
            have xf1 := xf 1
            have xf2 := xf 2
            clear xf
            refine AnyT.branch (rs := [6]) (by kernel_rfl) (by simp) ?_
            refine all_cons (?_) all_nil
            refine AnyT.step (i := 6) rfl (fun KK hK => ?_)
            go_simp
            refine hK.out _ _ (fun _ => TrueW.i _) ?_
            clear hK KK x0 x1 x2 xf0 xf1 xf2
            refine AnyT.done_ (by kernel_rfl) ?_ _
            go_wp2_with fail
            go_meet
            case rel => exact ⟨_, _, _, rfl, HFN⟩
      · obtain ⟨q2, e2⟩ : ∃ q, q = q1.alloc (qcells 0 none 0 0 none 0 0) := ⟨_, rfl⟩
        have HB2 := Lib.hid (show Below w1.heap.size w1 q2 by rw [e2]; exact HB1.out.alloc HB1.out.size _)
        have HU2 := Lib.hid (show Below q1.heap.size q1 q2 by rw [e2]; exact (Below.refl _ _).alloc (Nat.le_refl _) _)
        have HGA2 := Lib.hid (Got.new HB1.out e2)
        have HGM2 := Lib.hid (HGM1.out.below HU2.out)
        refine AnyT.yield (i := 5) (d := some 5) (v := .pointer (some ⟨q1.heap.size, 0, none⟩)) (w' := q2) rfl rfl rfl (by rw [e2]; go_simp) (fun _ => TrueW.i _) ?_
        clear e2
        simp only [Act.put, List.setIfInBounds_toArray, List.set_cons_zero, List.set_cons_succ]
        refine AnyT.branch (rs := [3]) (by kernel_rfl) (by simp) ?_
        refine (all_cons ?_ all_nil)
        · obtain ⟨q3, e3⟩ : ∃ q, q = q2.alloc (.cells csM 3) := ⟨_, rfl⟩
          have HB3 := Lib.hid (show Below w1.heap.size w1 q3 by rw [e3]; exact HB2.out.alloc HB2.out.size _)
          have HU3 := Lib.hid (show Below q2.heap.size q2 q3 by rw [e3]; exact (Below.refl _ _).alloc (Nat.le_refl _) _)
          have HGU3 := Lib.hid (Got.new HB2.out e3)
          have HGM3 := Lib.hid (HGM2.out.below HU3.out)
          have HGA3 := Lib.hid (HGA2.out.below HU3.out)
          refine AnyT.yield (i := 3) (d := some 27) (v := .slice (some ⟨q2.heap.size, 0, none⟩) M M) (w' := q3) rfl rfl rfl (by rw [e3]; go_simp) (fun _ => TrueW.i _) ?_
          clear e3
          simp only [Act.put, List.setIfInBounds_toArray, List.set_cons_zero, List.set_cons_succ]
          refine AnyT.branch (rs := [4]) (by kernel_rfl) (by simp) ?_
          refine (all_cons ?_ all_nil)
          · refine AnyT.enter (i := 4) (d := some 28) (f := 8) (args := #[.int .i64 12, .slice (some ⟨q0.heap.size, 0, none⟩) N N, .slice (some ⟨q2.heap.size, 0, none⟩) M M]) rfl rfl rfl (by go_simp) (proofF_any 12 _ _ N N M M q3) ?_
            rintro e q4 ⟨rfl, bz⟩
            have HB4 := Lib.hid (HB3.out.trans (bz.mono HB3.out.size))
            have HGM4 := Lib.hid (HGM3.out.below bz)
            have HGA4 := Lib.hid (HGA3.out.below bz)
            have HGU4 := Lib.hid (HGU3.out.below bz)
            clear bz
            refine ⟨_, rfl, fun _ => TrueW.i _, ?_⟩
            simp only [Act.put, List.setIfInBounds_toArray, List.set_cons_zero, List.set_cons_succ]
            have HFN := Lib.hid (lim_new HB4.out (by have := HGM4.out; rwa [HCN.out] at this) (by have := HGU4.out; rwa [HCM.out] at this) HGA4.out (Nat.ne_of_lt HGM1.out.lt) (Nat.ne_of_gt HGA2.out.lt) (Nat.ne_of_lt HGM2.out.lt))
            obtain ⟨x0, x1, x2, xf⟩ := zero3 HGA4.out.at_
            have xf0 := xf 0
            have xf1 := xf 1
            have xf2 := xf 2
            clear xf
            refine AnyT.branch (rs := [6]) (by kernel_rfl) (by simp) ?_
            refine all_cons (?_) all_nil
            refine AnyT.step (i := 6) rfl (fun KK hK => ?_)
            go_simp
            refine hK.out _ _ (fun _ => TrueW.i _) ?_
            clear hK KK x0 x1 x2 xf0 xf1 xf2
            refine AnyT.done_ (by kernel_rfl) ?_ _
            go_wp2_with fail
            go_meet
            case rel => exact ⟨_, _, _, rfl, HFN⟩
    · obtain ⟨q1, e1⟩ : ∃ q, q = q0.alloc (.cells csM 3) := ⟨_, rfl⟩
      have HB1 := Lib.hid (show Below w1.heap.size w1 q1 by rw [e1]; exact HB0.out.alloc HB0.out.size _)
      have HU1 := Lib.hid (show Below q0.heap.size q0 q1 by rw [e1]; exact (Below.refl _ _).alloc (Nat.le_refl _) _)
      have HGU1 := Lib.hid (Got.new HB0.out e1)
      refine AnyT.yield (i := 3) (d := some 27) (v := .slice (some ⟨q0.heap.size, 0, none⟩) M M) (w' := q1) rfl rfl rfl (by rw [e1]; go_simp) (fun _ => TrueW.i _) ?_
      clear e1
      simp only [Act.put, List.setIfInBounds_toArray, List.set_cons_zero, List.set_cons_succ]
      refine AnyT.branch (rs := [1, 5]) (by kernel_rfl) (by simp) ?_
      refine (all_cons ?_ (all_cons ?_ all_nil))
      · obtain ⟨q2, e2⟩ : ∃ q, q = q1.alloc (.cells csN 3) := ⟨_, rfl⟩
        have HB2 := Lib.hid (show Below w1.heap.size w1 q2 by rw [e2]; exact HB1.out.alloc HB1.out.size _)
        have HU2 := Lib.hid (show Below q1.heap.size q1 q2 by rw [e2]; exact (Below.refl _ _).alloc (Nat.le_refl _) _)
        have HGM2 := Lib.hid (Got.new HB1.out e2)
        have HGU2 := Lib.hid (HGU1.out.below HU2.out)
        refine AnyT.yield (i := 1) (d := some 25) (v := .slice (some ⟨q1.heap.size, 0, none⟩) N N) (w' := q2) rfl rfl rfl (by rw [e2]; go_simp) (fun _ => TrueW.i _) ?_
        clear e2
        simp only [Act.put, List.setIfInBounds_toArray, List.set_cons_zero, List.set_cons_succ]
        refine AnyT.branch (rs := [4, 5]) (by kernel_rfl) (by simp) ?_
        refine (all_cons ?_ (all_cons ?_ all_nil))
        · refine AnyT.enter (i := 4) (d := some 28) (f := 8) (args := #[.int .i64 12, .slice (some ⟨q1.heap.size, 0, none⟩) N N, .slice (some ⟨q0.heap.size, 0, none⟩) M M]) rfl rfl rfl (by go_simp) (proofF_any 12 _ _ N N M M q2) ?_
          rintro e q3 ⟨rfl, bz⟩
          have HB3 := Lib.hid (HB2.out.trans (bz.mono HB2.out.size))
          have HGU3 := Lib.hid (HGU2.out.below bz)
          have HGM3 := Lib.hid (HGM2.out.below bz)
          clear bz
          refine ⟨_, rfl, fun _ => TrueW.i _, ?_⟩
          simp only [Act.put, List.setIfInBounds_toArray, List.set_cons_zero, List.set_cons_succ]
          refine AnyT.branch (rs := [5]) (by kernel_rfl) (by simp) ?_
          refine (all_cons ?_ all_nil)
          · obtain ⟨q4, e4⟩ : ∃ q, q = q3.alloc (qcells 0 none 0 0 none 0 0) := ⟨_, rfl⟩
            have HB4 := Lib.hid (show Below w1.heap.size w1 q4 by rw [e4]; exact HB3.out.alloc HB3.out.size _)
            have HU4 := Lib.hid (show Below q3.heap.size q3 q4 by rw [e4]; exact (Below.refl _ _).alloc (Nat.le_refl _) _)
            have HGA4 := Lib.hid (Got.new HB3.out e4)
            have HGU4 := Lib.hid (HGU3.out.below HU4.out)
            have HGM4 := Lib.hid (HGM3.out.below HU4.out)
            refine AnyT.yield (i := 5) (d := some 5) (v := .pointer (some ⟨q3.heap.size, 0, none⟩)) (w' := q4) rfl rfl rfl (by rw [e4]; go_simp) (fun _ => TrueW.i _) ?_
            clear e4
            simp only [Act.put, List.setIfInBounds_toArray, List.set_cons_zero, List.set_cons_succ]
            have HFN := Lib.hid (lim_new HB4.out (by have := HGM4.out; rwa [HCN.out] at this) (by have := HGU4.out; rwa [HCM.out] at this) HGA4.out (Nat.ne_of_lt HGM3.out.lt) (Nat.ne_of_lt HGU3.out.lt) (Nat.ne_of_gt HGU1.out.lt))
            obtain ⟨x0, x1, x2, xf⟩ := zero3 HGA4.out.at_
            have xf0 := xf 0
            have xf1 := xf 1
            have xf2 := xf 2
            clear xf
            refine AnyT.branch (rs := [6]) (by kernel_rfl) (by simp) ?_
            refine all_cons (?_) all_nil
            refine AnyT.step (i := 6) rfl (fun KK hK => ?_)
            go_simp
            refine hK.out _ _ (fun _ => TrueW.i _) ?_
            clear hK KK x0 x1 x2 xf0 xf1 xf2
            refine AnyT.done_ (by kernel_rfl) ?_ _
            go_wp2_with fail
            go_meet
            case rel => exact ⟨_, _, _, rfl, HFN⟩
        · obtain ⟨q3, e3⟩ : ∃ q, q = q2.alloc (qcells 0 none 0 0 none 0 0) := ⟨_, rfl⟩
          have HB3 := Lib.hid (show Below w1.heap.size w1 q3 by rw [e3]; exact HB2.out.alloc HB2.out.size _)
          have HU3 := Lib.hid (show Below q2.heap.size q2 q3 by rw [e3]; exact (Below.refl _ _).alloc (Nat.le_refl _) _)
          have HGA3 := Lib.hid (Got.new HB2.out e3)
          have HGU3 := Lib.hid (HGU2.out.below HU3.out)
          have HGM3 := Lib.hid (HGM2.out.below HU3.out)
          refine AnyT.yield (i := 5) (d := some 5) (v := .pointer (some ⟨q2.heap.size, 0, none⟩)) (w' := q3) rfl rfl rfl (by rw [e3]; go_simp) (fun _ => TrueW.i _) ?_
          clear e3
          simp only [Act.put, List.setIfInBounds_toArray, List.set_cons_zero, List.set_cons_succ]
          refine AnyT.branch (rs := [4]) (by kernel_rfl) (by simp) ?_
          refine (all_cons ?_ all_nil)
          · refine AnyT.enter (i := 4) (d := some 28) (f := 8) (args := #[.int .i64 12, .slice (some ⟨q1.heap.size, 0, none⟩) N N, .slice (some ⟨q0.heap.size, 0, none⟩) M M]) rfl rfl rfl (by go_simp) (proofF_any 12 _ _ N N M M q3) ?_
            rintro e q4 ⟨rfl, bz⟩
            have HB4 := Lib.hid (HB3.out.trans (bz.mono HB3.out.size))
            have HGU4 := Lib.hid (HGU3.out.below bz)
            have HGM4 := Lib.hid (HGM3.out.below bz)
            have HGA4 := Lib.hid (HGA3.out.below bz)
            clear bz
            refine ⟨_, rfl, fun _ => TrueW.i _, ?_⟩
            simp only [Act.put, List.setIfInBounds_toArray, List.set_cons_zero, List.set_cons_succ]
            have HFN := Lib.hid (lim_new HB4.out (by have := HGM4.out; rwa [HCN.out] at this) (by have := HGU4.out; rwa [HCM.out] at this) HGA4.out (Nat.ne_of_lt HGM2.out.lt) (Nat.ne_of_lt HGU2.out.lt) (Nat.ne_of_gt HGU1.out.lt))
            obtain ⟨x0, x1, x2, xf⟩ := zero3 HGA4.out.at_
            have xf0 := xf 0
            have xf1 := xf 1
            have xf2 := xf 2
            clear xf
            refine AnyT.branch (rs := [6]) (by kernel_rfl) (by simp) ?_
            refine all_cons (?_) all_nil
            refine AnyT.step (i := 6) rfl (fun KK hK => ?_)
            go_simp
            refine hK.out _ _ (fun _ => TrueW.i _) ?_
            clear hK KK x0 x1 x2 xf0 xf1 xf2
            refine AnyT.done_ (by kernel_rfl) ?_ _
            go_wp2_with fail
            go_meet
            case rel => exact ⟨_, _, _, rfl, HFN⟩
      · obtain ⟨q2, e2⟩ : ∃ q, q = q1.alloc (qcells 0 none 0 0 none 0 0) := ⟨_, rfl⟩
        have HB2 := Lib.hid (show Below w1.heap.size w1 q2 by rw [e2]; exact HB1.out.alloc HB1.out.size _)
        have HU2 := Lib.hid (show Below q1.heap.size q1 q2 by rw [e2]; exact (Below.refl _ _).alloc (Nat.le_refl _) _)
        have HGA2 := Lib.hid (Got.new HB1.out e2)
        have HGU2 := Lib.hid (HGU1.out.below HU2.out)
        refine AnyT.yield (i := 5) (d := some 5) (v := .pointer (some ⟨q1.heap.size, 0, none⟩)) (w' := q2) rfl rfl rfl (by rw [e2]; go_simp) (fun _ => TrueW.i _) ?_
        clear e2
        simp only [Act.put, List.setIfInBounds_toArray, List.set_cons_zero, List.set_cons_succ]
        refine AnyT.branch (rs := [1]) (by kernel_rfl) (by simp) ?_
        refine (all_cons ?_ all_nil)
        · obtain ⟨q3, e3⟩ : ∃ q, q = q2.alloc (.cells csN 3) := ⟨_, rfl⟩
          have HB3 := Lib.hid (show Below w1.heap.size w1 q3 by rw [e3]; exact HB2.out.alloc HB2.out.size _)
          have HU3 := Lib.hid (show Below q2.heap.size q2 q3 by rw [e3]; exact (Below.refl _ _).alloc (Nat.le_refl _) _)
          have HGM3 := Lib.hid (Got.new HB2.out e3)
          have HGU3 := Lib.hid (HGU2.out.below HU3.out)
          have HGA3 := Lib.hid (HGA2.out.below HU3.out)
          refine AnyT.yield (i := 1) (d := some 25) (v := .slice (some ⟨q2.heap.size, 0, none⟩) N N) (w' := q3) rfl rfl rfl (by rw [e3]; go_simp) (fun _ => TrueW.i _) ?_
          clear e3
          simp only [Act.put, List.setIfInBounds_toArray, List.set_cons_zero, List.set_cons_succ]
          refine AnyT.branch (rs := [4]) (by kernel_rfl) (by simp) ?_
          refine (all_cons ?_ all_nil)
          · refine AnyT.enter (i := 4) (d := some 28) (f := 8) (args := #[.int .i64 12, .slice (some ⟨q2.heap.size, 0, none⟩) N N, .slice (some ⟨q0.heap.size, 0, none⟩) M M]) rfl rfl rfl (by go_simp) (proofF_any 12 _ _ N N M M q3) ?_
            rintro e q4 ⟨rfl, bz⟩
            have HB4 := Lib.hid (HB3.out.trans (bz.mono HB3.out.size))
            have HGU4 := Lib.hid (HGU3.out.below bz)
            have HGA4 := Lib.hid (HGA3.out.below bz)
            have HGM4 := Lib.hid (HGM3.out.below bz)
            clear bz
            refine ⟨_, rfl, fun _ => TrueW.i _, ?_⟩
            simp only [Act.put, List.setIfInBounds_toArray, List.set_cons_zero, List.set_cons_succ]
            have HFN := Lib.hid (lim_new HB4.out (by have := HGM4.out; rwa [HCN.out] at this) (by have := HGU4.out; rwa [HCM.out] at this) HGA4.out (Nat.ne_of_gt HGA2.out.lt) (Nat.ne_of_lt HGU1.out.lt) (Nat.ne_of_gt HGU2.out.lt))
            obtain ⟨x0, x1, x2, xf⟩ := zero3 HGA4.out.at_
            have xf0 := xf 0
            have xf1 := xf 1
            have xf2 := xf 2
            clear xf
            refine AnyT.branch (rs := [6]) (by kernel_rfl) (by simp) ?_
            refine all_cons (?_) all_nil
            refine AnyT.step (i := 6) rfl (fun KK hK => ?_)
            go_simp
            refine hK.out _ _ (fun _ => TrueW.i _) ?_
            clear hK KK x0 x1 x2 xf0 xf1 xf2
            refine AnyT.done_ (by kernel_rfl) ?_ _
            go_wp2_with fail
            go_meet
            case rel => exact ⟨_, _, _, rfl, HFN⟩
    · obtain ⟨q1, e1⟩ : ∃ q, q = q0.alloc (qcells 0 none 0 0 none 0 0) := ⟨_, rfl⟩
      have HB1 := Lib.hid (show Below w1.heap.size w1 q1 by rw [e1]; exact HB0.out.alloc HB0.out.size _)
      have HU1 := Lib.hid (show Below q0.heap.size q0 q1 by rw [e1]; exact (Below.refl _ _).alloc (Nat.le_refl _) _)
      have HGA1 := Lib.hid (Got.new HB0.out e1)
      refine AnyT.yield (i := 5) (d := some 5) (v := .pointer (some ⟨q0.heap.size, 0, none⟩)) (w' := q1) rfl rfl rfl (by rw [e1]; go_simp) (fun _ => TrueW.i _) ?_
      clear e1
      simp only [Act.put, List.setIfInBounds_toArray, List.set_cons_zero, List.set_cons_succ]
      refine AnyT.branch (rs := [1, 3]) (by kernel_rfl) (by simp) ?_
      refine (all_cons ?_ (all_cons ?_ all_nil))
      · obtain ⟨q2, e2⟩ : ∃ q, q = q1.alloc (.cells csN 3) := ⟨_, rfl⟩
        have HB2 := Lib.hid (show Below w1.heap.size w1 q2 by rw [e2]; exact HB1.out.alloc HB1.out.size _)
        have HU2 := Lib.hid (show Below q1.heap.size q1 q2 by rw [e2]; exact (Below.refl _ _).alloc (Nat.le_refl _) _)
        have HGM2 := Lib.hid (Got.new HB1.out e2)
        have HGA2 := Lib.hid (HGA1.out.below HU2.out)
        refine AnyT.yield (i := 1) (d := some 25) (v := .slice (some ⟨q1.heap.size, 0, none⟩) N N) (w' := q2) rfl rfl rfl (by rw [e2]; go_simp) (fun _ => TrueW.i _) ?_
        clear e2
        simp only [Act.put, List.setIfInBounds_toArray, List.set_cons_zero, List.set_cons_succ]
        refine AnyT.branch (rs := [3]) (by kernel_rfl) (by simp) ?_
        refine (all_cons ?_ all_nil)
        · obtain ⟨q3, e3⟩ : ∃ q, q = q2.alloc (.cells csM 3) := ⟨_, rfl⟩
          have HB3 := Lib.hid (show Below w1.heap.size w1 q3 by rw [e3]; exact HB2.out.alloc HB2.out.size _)
          have HU3 := Lib.hid (show Below q2.heap.size q2 q3 by rw [e3]; exact (Below.refl _ _).alloc (Nat.le_refl _) _)
          have HGU3 := Lib.hid (Got.new HB2.out e3)
          have HGA3 := Lib.hid (HGA2.out.below HU3.out)
          have HGM3 := Lib.hid (HGM2.out.below HU3.out)
          refine AnyT.yield (i := 3) (d := some 27) (v := .slice (some ⟨q2.heap.size, 0, none⟩) M M) (w' := q3) rfl rfl rfl (by rw [e3]; go_simp) (fun _ => TrueW.i _) ?_
          clear e3
          simp only [Act.put, List.setIfInBounds_toArray, List.set_cons_zero, List.set_cons_succ]
          refine AnyT.branch (rs := [4]) (by kernel_rfl) (by simp) ?_
          refine (all_cons ?_ all_nil)
          · refine AnyT.enter (i := 4) (d := some 28) (f := 8) (args := #[.int .i64 12, .slice (some ⟨q1.heap.size, 0, none⟩) N N, .slice (some ⟨q2.heap.size, 0, none⟩) M M]) rfl rfl rfl (by go_simp) (proofF_any 12 _ _ N N M M q3) ?_
            rintro e q4 ⟨rfl, bz⟩
            have HB4 := Lib.hid (HB3.out.trans (bz.mono HB3.out.size))
            have HGA4 := Lib.hid (HGA3.out.below bz)
            have HGM4 := Lib.hid (HGM3.out.below bz)
            have HGU4 := Lib.hid (HGU3.out.below bz)
            clear bz
            refine ⟨_, rfl, fun _ => TrueW.i _, ?_⟩
            simp only [Act.put, List.setIfInBounds_toArray, List.set_cons_zero, List.set_cons_succ]
            have HFN := Lib.hid (lim_new HB4.out (by have := HGM4.out; rwa [HCN.out] at this) (by have := HGU4.out; rwa [HCM.out] at this) HGA4.out (Nat.ne_of_gt HGA1.out.lt) (Nat.ne_of_gt HGA2.out.lt) (Nat.ne_of_lt HGM2.out.lt))
            obtain ⟨x0, x1, x2, xf⟩ := zero3 HGA4.out.at_
            have xf0 := xf 0
            have xf1 := xf 1
            have xf2 := xf 2
            clear xf
            refine AnyT.branch (rs := [6]) (by kernel_rfl) (by simp) ?_
            refine all_cons (?_) all_nil
            refine AnyT.step (i := 6) rfl (fun KK hK => ?_)
            go_simp
            refine hK.out _ _ (fun _ => TrueW.i _) ?_
            clear hK KK x0 x1 x2 xf0 xf1 xf2
            refine AnyT.done_ (by kernel_rfl) ?_ _
            go_wp2_with fail
            go_meet
            case rel => exact ⟨_, _, _, rfl, HFN⟩
      · obtain ⟨q2, e2⟩ : ∃ q, q = q1.alloc (.cells csM 3) := ⟨_, rfl⟩
        have HB2 := Lib.hid (show Below w1.heap.size w1 q2 by rw [e2]; exact HB1.out.alloc HB1.out.size _)
        have HU2 := Lib.hid (show Below q1.heap.size q1 q2 by rw [e2]; exact (Below.refl _ _).alloc (Nat.le_refl _) _)
        have HGU2 := Lib.hid (Got.new HB1.out e2)
        have HGA2 := Lib.hid (HGA1.out.below HU2.out)
        refine AnyT.yield (i := 3) (d := some 27) (v := .slice (some ⟨q1.heap.size, 0, none⟩) M M) (w' := q2) rfl rfl rfl (by rw [e2]; go_simp) (fun _ => TrueW.i _) ?_
        clear e2
        simp only [Act.put, List.setIfInBounds_toArray, List.set_cons_zero, List.set_cons_succ]
        refine AnyT.branch (rs := [1]) (by kernel_rfl) (by simp) ?_
        refine (all_cons ?_ all_nil)
        · obtain ⟨q3, e3⟩ : ∃ q, q = q2.alloc (.cells csN 3) := ⟨_, rfl⟩
          have HB3 := Lib.hid (show Below w1.heap.size w1 q3 by rw [e3]; exact HB2.out.alloc HB2.out.size _)
          have HU3 := Lib.hid (show Below q2.heap.size q2 q3 by rw [e3]; exact (Below.refl _ _).alloc (Nat.le_refl _) _)
          have HGM3 := Lib.hid (Got.new HB2.out e3)
          have HGA3 := Lib.hid (HGA2.out.below HU3.out)
          have HGU3 := Lib.hid (HGU2.out.below HU3.out)
          refine AnyT.yield (i := 1) (d := some 25) (v := .slice (some ⟨q2.heap.size, 0, none⟩) N N) (w' := q3) rfl rfl rfl (by rw [e3]; go_simp) (fun _ => TrueW.i _) ?_
          clear e3
          simp only [Act.put, List.setIfInBounds_toArray, List.set_cons_zero, List.set_cons_succ]
          refine AnyT.branch (rs := [4]) (by kernel_rfl) (by simp) ?_
          refine (all_cons ?_ all_nil)
          · refine AnyT.enter (i := 4) (d := some 28) (f := 8) (args := #[.int .i64 12, .slice (some ⟨q2.heap.size, 0, none⟩) N N, .slice (some ⟨q1.heap.size, 0, none⟩) M M]) rfl rfl rfl (by go_simp) (proofF_any 12 _ _ N N M M q3) ?_
            rintro e q4 ⟨rfl, bz⟩
            have HB4 := Lib.hid (HB3.out.trans (bz.mono HB3.out.size))
            have HGA4 := Lib.hid (HGA3.out.below bz)
            have HGU4 := Lib.hid (HGU3.out.below bz)
            have HGM4 := Lib.hid (HGM3.out.below bz)
            clear bz
            refine ⟨_, rfl, fun _ => TrueW.i _, ?_⟩
            simp only [Act.put, List.setIfInBounds_toArray, List.set_cons_zero, List.set_cons_succ]
            have HFN := Lib.hid (lim_new HB4.out (by have := HGM4.out; rwa [HCN.out] at this) (by have := HGU4.out; rwa [HCM.out] at this) HGA4.out (Nat.ne_of_gt HGA2.out.lt) (Nat.ne_of_gt HGA1.out.lt) (Nat.ne_of_gt HGU2.out.lt))
            obtain ⟨x0, x1, x2, xf⟩ := zero3 HGA4.out.at_
            have xf0 := xf 0
            have xf1 := xf 1
            have xf2 := xf 2
            clear xf
            refine AnyT.branch (rs := [6]) (by kernel_rfl) (by simp) ?_
            refine all_cons (?_) all_nil
            refine AnyT.step (i := 6) rfl (fun KK hK => ?_)
            go_simp
            refine hK.out _ _ (fun _ => TrueW.i _) ?_
            clear hK KK x0 x1 x2 xf0 xf1 xf2
            refine AnyT.done_ (by kernel_rfl) ?_ _
            go_wp2_with fail
            go_meet
            case rel => exact ⟨_, _, _, rfl, HFN⟩
  case rest =>
    obtain ⟨gp, gv, gu, rfl, H⟩ := hcut
    clear hmkN hmkM HCN HCM
    obtain ⟨p0, p1, p2, -, pl⟩ := H.out.box
    go_wp2_with fail
    clear p0 p1 p2 pl
    go_loopw [33] (fun iv wr => ∃ (k : Nat) (vs : List Int), k ≤ N ∧ iv = .int .i64 (k : Int) ∧ Hid (∀ j, j < k → vs.getD j 0 = 4095 - (j : Int)) ∧ Hid (LS w1 wr gp gv gu N M vs (List.replicate M 0))) (fun iv _ => N - (intOf iv).toNat)
    case atStart => exact ⟨0, List.replicate N 0, by omega, rfl, Lib.hid (fun j hj => absurd hj (Nat.not_lt_zero _)), H⟩
    case round =>
      clear H
      obtain ⟨k, vs, hk, rfl, F, H⟩ := hrel
      obtain ⟨p0, p1, p2, -, pl⟩ := H.out.box
      by_cases hlt : k < N
      · have hki : (k : Int) < (N : Int) := by omega
        have hfz := H.out.ov.frozen H.out.lv.symm k
        have hcl := H.out.ov.cell H.out.lv.symm k (by rw [H.out.lv]; exact hlt)
        obtain ⟨z, hz⟩ : ∃ z, z = 4095 - (k : Int) := ⟨_, rfl⟩
        have HS := Lib.hid (H.out.setV k z)
        have HZ := Lib.hid hz
        have hsub : (4095 : Int) - (k : Int) = z := hz.symm
        clear hz
        go_wp2_with fail
        go_roundw
        case rel =>
          refine ⟨k + 1, vs.set k z, by omega, by go_num, Lib.hid (fun j hj => ?_), HS⟩
          rw [getD_set _ _ _ _ (by rw [H.out.lv]; exact hlt)]
          by_cases e : j = k
          · rw [if_pos e, e, HZ.out]
          · rw [if_neg e]; exact F.out j (by omega)
        case measure => simp [intOf]; omega
      · obtain rfl : k = N := by omega
        have HV := Lib.hid (show vs = dwn k from same_getD (by rw [H.out.lv, dwn_len]) fun t ht => by
          rw [H.out.lv] at ht
          rw [F.out t ht, dwn_at ht])
        rw [HV.out] at H
        clear F HV hlt
        go_wp2_with fail
        clear p0 p1 p2 pl
        go_loopw [47] (fun iv wr => ∃ (j : Nat) (us : List Int), j ≤ M ∧ iv = .int .i64 (j : Int) ∧ Hid (∀ t, t < j → us.getD t 0 = (t : Int) % 96) ∧ Hid (LS w1 wr gp gv gu k M (dwn k) us)) (fun iv _ => M - (intOf iv).toNat)
        case atStart => exact ⟨0, List.replicate M 0, by omega, rfl, Lib.hid (fun j hj => absurd hj (Nat.not_lt_zero _)), H⟩
        case round =>
          clear H
          obtain ⟨j, us, hj, rfl, F, H⟩ := hrel
          obtain ⟨p0, p1, p2, -, pl⟩ := H.out.box
          by_cases hlt : j < M
          · have hji : (j : Int) < (M : Int) := by omega
            have hfz := H.out.ou.frozen H.out.lu.symm j
            have hcl := H.out.ou.cell H.out.lu.symm j (by rw [H.out.lu]; exact hlt)
            obtain ⟨z, hz⟩ : ∃ z, z = (j : Int) % 96 := ⟨_, rfl⟩
            have HS := Lib.hid (H.out.setU j z)
            have HZ := Lib.hid hz
            have hsub : (j : Int) % 96 = z := hz.symm
            have hsub2 : (j : Int).tmod 96 = z := by rw [Int.tmod_eq_emod_of_nonneg (by omega)]; exact hsub
            clear hz
            go_wp2_with fail
            go_roundw
            case rel =>
              refine ⟨j + 1, us.set j z, by omega, by go_num, Lib.hid (fun t ht => ?_), HS⟩
              rw [getD_set _ _ _ _ (by rw [H.out.lu]; exact hlt)]
              by_cases e : t = j
              · rw [if_pos e, e, HZ.out]
              · rw [if_neg e]; exact F.out t (by omega)
            case measure => simp [intOf]; omega
          · obtain rfl : j = M := by omega
            have HV := Lib.hid (show us = rng j from same_getD (by rw [H.out.lu, rng_len]) fun t ht => by
              rw [H.out.lu] at ht
              rw [F.out t ht, rng_at ht])
            rw [HV.out] at H
            clear F HV hlt hj hk
            have HE := Lib.hid (encode_any 12 (dwn k) (rng j) (some ⟨gv, 0, none⟩) (some ⟨gu, 0, none⟩) k k j j (dwn_len k).symm (rng_len j).symm (by rw [dwn_len]; unfold maxLen; omega) (by rw [rng_len]; unfold maxLen; omega) wr H.out.rows.1 H.out.rows.2)
            have HLE := Lib.hid (lim_enc hN1.2 hM1.2)
            go_wp2_with fail
            refine HE.out.mono ?_
            rintro e w5 ⟨x, rfl, OX, B5⟩
            have H5 := Lib.hid (H.out.below B5)
            clear p0 p1 p2 pl B5 HE H
            by_cases hbig : 96 < k ∨ 96 < j
            · have e3 : encE 12 (dwn k) (rng j) = 3 := by rw [HLE.out, if_pos hbig]
              rw [e3, if_neg (by decide)] at OX
              rw [e3]
              obtain ⟨xA, xc, rfl, -, -, -, -⟩ := OX.slice
              have hxl : (([] : List Int).length : Int) = 0 := rfl
              clear e3 HLE
              by_cases hb : 96 < k
              · have hbi : (96 : Int) < (k : Int) := by omega
                go_wp2_with fail
                refine (sane15_any _).mono ?_
                rintro e w6 ⟨rfl, B6⟩
                go_wp2_with fail
                go_ret
                exact ⟨rfl, H5.out.bel.trans (B6.mono H5.out.bel.size)⟩
              · have hbi : ¬ (96 : Int) < (k : Int) := by omega
                have hci : (96 : Int) < (j : Int) := by omega
                go_wp2_with fail
                refine (sane15_any _).mono ?_
                rintro e w6 ⟨rfl, B6⟩
                go_wp2_with fail
                go_ret
                exact ⟨rfl, H5.out.bel.trans (B6.mono H5.out.bel.size)⟩
            · have e0 : encE 12 (dwn k) (rng j) = 0 := by rw [HLE.out, if_neg hbig]
              rw [e0, if_pos rfl] at OX
              rw [e0]
              obtain ⟨⟨d0, d1, d2, d3⟩, dX, dXL⟩ := show ((decR (encL 12 (dwn k) (rng j)) = 0 ∧ stD (encL 12 (dwn k) (rng j)) = 12 ∧ vD (encL 12 (dwn k) (rng j)) = dwn k ∧ chD (encL 12 (dwn k) (rng j)) = rng j)) ∧ BB8 (encL 12 (dwn k) (rng j)) ∧ (encL 12 (dwn k) (rng j)).length = 3 + 2 * k + j from ⟨dec_enc e0, bb_encL e0, by rw [encL_len, dwn_len, rng_len]⟩
              obtain ⟨xA, xc, rfl, XR, -, -, -⟩ := OX.slice
              have hcap := OX.capm
              have HDE := Lib.hid (decode_any (encL 12 (dwn k) (rng j)) xA _ xc rfl hcap dX w5 XR)
              have HZZ := Lib.hid (show stZ (encL 12 (dwn k) (rng j)) = 12 ∧ vZ (encL 12 (dwn k) (rng j)) = dwn k ∧ chZ (encL 12 (dwn k) (rng j)) = rng j from ⟨by unfold stZ; rw [if_pos d0, d1], by unfold vZ; rw [if_pos d0, d2], by unfold chZ; rw [if_pos d0, d3]⟩)
              have HD0 := Lib.hid d0
              obtain ⟨bs, hbs⟩ : ∃ bs, bs = encL 12 (dwn k) (rng j) := ⟨_, rfl⟩
              rw [← hbs] at HDE HZZ HD0 dXL ⊢
              obtain ⟨L, hL⟩ : ∃ L, L = bs.length := ⟨_, rfl⟩
              rw [← hL] at HDE dXL ⊢
              have hlen : ((L : Int) == 3 + 2 * (k : Int) + (j : Int)) = true := by simp; omega
              obtain ⟨K, hK⟩ : ∃ K, K = k / 2 := ⟨_, rfl⟩
              have hKk : K < k := by omega
              have hq1 : (k : Int).tdiv 2 = (K : Int) := by rw [Int.tdiv_eq_ediv_of_nonneg (by omega)]; omega
              have hq2 : (k : Int) / 2 = (K : Int) := by omega
              have hki : ¬ (96 : Int) < (k : Int) := by omega
              have hji : ¬ (96 : Int) < (j : Int) := by omega
              have HNO := Lib.hid (lim_no (k := K) (N := k) (M := j) (by omega) (by omega) hKk)
              have HBK := Lib.hid (show ((dwn k).set K 4096).set K (4095 - (K : Int)) = dwn k from by
                have := set_back (zs := dwn k) (k := K) (x := 4096) (by rw [dwn_len]; exact hKk)
                rwa [dwn_at hKk] at this)
              obtain ⟨z, hz⟩ : ∃ z, z = 4095 - (K : Int) := ⟨_, rfl⟩
              have hsub : (4095 : Int) - (K : Int) = z := hz.symm
              rw [← hz] at HBK
              clear hbs hL hK hz OX XR hcap d0 d1 d2 d3 dX e0 hbig HLE dXL
              go_wp2_with fail
              refine HDE.out.mono ?_
              rintro e w6 ⟨yA, yn, yc, yB, ym, yd, rfl, OY, OZ, B6⟩
              obtain ⟨e1, e2, e3⟩ := HZZ.out
              rw [e2] at OY
              rw [e3] at OZ
              rw [e1, HD0.out]
              have BX := (Below.refl w6.heap.size w6).alloc (Nat.le_refl _) (qcells 12 yA yn yc yB ym yd)
              have H7 := Lib.hid ((H5.out.below B6).below BX)
              have Q7 := Lib.hid (QBox.new (w := w6) (st := 12) (A := yA) (n := yn) (c := yc) (B := yB) (m := ym) (d := yd) w6.heap.size rfl)
              have OY := Lib.hid (OY.below BX)
              have OZ := Lib.hid (OZ.below BX)
              have hg7 : gv < w5.heap.size ∧ gp < w5.heap.size := ⟨(own_block H5.out.ov rfl).2, H5.out.box.lt⟩
              have hs56 : w5.heap.size ≤ w6.heap.size := B6.size
              clear e1 e2 e3 B6 BX H5 HDE HZZ HD0
              go_upto_region 17 with fail
              obtain ⟨g, hg⟩ : ∃ g, g = w6.heap.size := ⟨_, rfl⟩
              rw [← hg] at Q7 hs56 ⊢
              generalize w6.alloc (qcells 12 yA yn yc yB ym yd) = w7 at *
              clear hg
              have hgv : gv ≠ g := by omega
              have hown : ∀ (A : Option Addr) (n c : Nat) (zs : List Int), Own .i64 3 w7 w5.heap.size (.slice A n c) zs → ∀ q, (Value.slice A n c).ownBlock = some q → q ≠ gv := fun A n c zs O q e => by have := (own_block O e).1; omega
              have H8 := Lib.hid (H7.out.setV K 4096)
              have Q8 := Lib.hid (Q7.out.setO (p := ⟨gv, K, none⟩) hgv (.int .i64 4096))
              have OY8 := Lib.hid (OY.out.setN (p := ⟨gv, K, none⟩) (hown _ _ _ _ OY.out) (.int .i64 4096))
              have OZ8 := Lib.hid (OZ.out.setN (p := ⟨gv, K, none⟩) (hown _ _ _ _ OZ.out) (.int .i64 4096))
              have hf7 := H7.out.ov.frozen H7.out.lv.symm K
              have hc7 := H7.out.ov.cell H7.out.lv.symm K (by rw [H7.out.lv]; exact hKk)
              have h57 : w5.heap.size ≤ w7.heap.size := by have := Q7.out.lt; omega
              obtain ⟨p0, p1, p2, -, pl⟩ := H7.out.box
              clear hown OY OZ Q7 H7
              go_upto_region 18 with fail
              generalize hw8 : w7.setCell ⟨gv, K, none⟩ (.int .i64 4096) = w8 at *
              have h58 : w5.heap.size ≤ w8.heap.size := by rw [← hw8, World.size_setCell]; exact h57
              clear hf7 hc7 p0 p1 p2 pl hw8
              obtain ⟨p0, p1, p2, -, pl⟩ := H8.out.box
              have HE := Lib.hid (encode_any 12 ((dwn k).set K 4096) (rng j) (some ⟨gv, 0, none⟩) (some ⟨gu, 0, none⟩) k k j j (by rw [List.length_set]; exact (dwn_len k).symm) (rng_len j).symm (by rw [List.length_set, dwn_len]; unfold maxLen; omega) (by rw [rng_len]; unfold maxLen; omega) w8 H8.out.rows.1 H8.out.rows.2)
              go_wp2_with fail
              refine HE.out.mono ?_
              rintro e w9 ⟨x2, rfl, -, B9⟩
              rw [HNO.out]
              have H9 := Lib.hid (H8.out.below B9)
              have Q9 := Lib.hid (Q8.out.below B9 Q8.out.lt)
              have OY9 := Lib.hid (OY8.out.below B9)
              have OZ9 := Lib.hid (OZ8.out.below B9)
              have h59 : w5.heap.size ≤ w9.heap.size := Nat.le_trans h58 B9.size
              clear p0 p1 p2 pl B9 HE H8 Q8 OY8 OZ8 HNO
              have hown : ∀ (A : Option Addr) (n c : Nat) (zs : List Int), Own .i64 3 w9 w5.heap.size (.slice A n c) zs → ∀ q, (Value.slice A n c).ownBlock = some q → q ≠ gv := fun A n c zs O q e => by have := (own_block O e).1; omega
              have HA := H9.out.setV K z
              rw [HBK.out] at HA
              have HA := Lib.hid HA
              have QA := Lib.hid (Q9.out.setO (p := ⟨gv, K, none⟩) hgv (.int .i64 z))
              have OYA := Lib.hid (OY9.out.setN (p := ⟨gv, K, none⟩) (hown _ _ _ _ OY9.out) (.int .i64 z))
              have OZA := Lib.hid (OZ9.out.setN (p := ⟨gv, K, none⟩) (hown _ _ _ _ OZ9.out) (.int .i64 z))
              have hf9 := H9.out.ov.frozen H9.out.lv.symm K
              have hc9 := H9.out.ov.cell H9.out.lv.symm K (by rw [H9.out.lv]; exact hKk)
              obtain ⟨p0, p1, p2, -, pl⟩ := H9.out.box
              clear hown OY9 OZ9 Q9 H9 HBK
              go_upto_region 20 with fail
              generalize w9.setCell ⟨gv, K, none⟩ (.int .i64 z) = wA at *
              clear hf9 hc9 p0 p1 p2 pl
              obtain ⟨p0, p1, p2, -, pl⟩ := HA.out.box
              obtain ⟨r0, r1, r2, -, rl⟩ := QA.out
              obtain ⟨yA', yc', ey, YR, -, ym1, -⟩ := OYA.out.slice
              have eyA : yA = yA' := by injection ey
              have eyn : yn = (dwn k).length := by injection ey
              subst eyA
              obtain ⟨yB', yd', ez, ZR, -, zm1, -⟩ := OZA.out.slice
              have ezB : yB = yB' := by injection ez
              have ezm : ym = (rng j).length := by injection ez
              subst ezB
              have HPR := Lib.hid (proofs_same 12 (dwn k) (rng j) (some ⟨gv, 0, none⟩) yA (some ⟨gu, 0, none⟩) yB k yn k yc j ym j yd wA (dwn_len k).symm eyn (rng_len j).symm ezm HA.out.rows.1 YR ym1 HA.out.rows.2 ZR zm1)
              clear ey eyn YR ym1 ez ezm ZR zm1 OYA OZA
              go_wp2_with fail
              refine HPR.out.mono ?_
              rintro e wB ⟨rfl, BB⟩
              have HBB := Lib.hid (HA.out.bel.trans (BB.mono HA.out.bel.size))
              clear p0 p1 p2 pl r0 r1 r2 rl BB HPR
              go_wp2_with fail
              refine (sane15_any _).mono ?_
              rintro e wC ⟨rfl, BC⟩
              go_wp2_with fail
              go_ret
              exact ⟨rfl, HBB.out.trans (BC.mono HBB.out.size)⟩
end Go.Proofs.Ytlagadbkencpbaa
