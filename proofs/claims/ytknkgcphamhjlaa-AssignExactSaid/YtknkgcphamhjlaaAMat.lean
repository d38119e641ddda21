/-
  Stage 16: the program's Match.
-/
import Derived.Test.YtknkgcphamhjlaaAGrt
import Derived.Test.YtknkgcphamhjlaaARep
import Derived.Test.YtknkgcphamhjlaaASre
set_option linter.unusedSimpArgs false
set_option linter.unusedVariables false
namespace Go.Proofs.Ytknkgcphamhjlaa
open Go.RowKit Go.Lib

theorem setCell_grown (w : World) (p : Addr) (u : Value) : w.grownBy (w.setCell p u) (some p.block) :=
  ⟨rfl, rfl, rfl, by rw [World.size_setCell]; exact Nat.le_refl _, fun j hj hn => Below.heap_setCell _ _ _ _ (fun e => hn (by rw [e]))⟩
theorem Own.setN {k : IntKind} {e : TypeId} {W : World} {base : Nat} {v : Value} {zs : List Int} (h : Own k e W base v zs) {p : Addr} (hp : ∀ g, v.ownBlock = some g → g ≠ p.block) (u : Value) : Own k e (W.setCell p u) base v zs := by
  refine h.kept (setCell_grown W p u) ?_
  cases hq : v.ownBlock with
  | none => exact Or.inl rfl
  | some g => exact Or.inr (fun e => hp g hq (by injection e))
theorem BSet.setN {W : World} {b : Nat} {bs : List Bool} (h : BSet W b bs) {p : Addr} (hp : b ≠ p.block) (u : Value) : BSet (W.setCell p u) b bs :=
  ((setCell_grown W p u).block b h.lt (fun e => hp (by injection e))).trans h
/-- The indexes of a refusal. -/
def refN (a : List Int) (os : List Nat) (n : Nat) : List Nat := (List.range a.length).filter fun x => (os.take (n + 1)).contains x
def refL (a : List Int) (os : List Nat) (n : Nat) : List Int := toZ (refN a os n)
def MOut (a b : List Int) (os : List Nat) (l r : List Int) (e : Int) : Prop :=
  (valR a b ≠ 0 ∧ l = [] ∧ r = [] ∧ e = valR a b) ∨ (valR a b = 0 ∧ OkTo a b os os.length ∧ l = (stM a b os os.length).2 ∧ r = [] ∧ e = 0) ∨ (valR a b = 0 ∧ ∃ n, n < os.length ∧ OkTo a b os n ∧ yM a b os n = -1 ∧ l = [] ∧ r = refL a os n ∧ e = 14)
theorem MOut.uniq {a b : List Int} {os : List Nat} {l r l' r' : List Int} {e e' : Int} (h : MOut a b os l r e) (h' : MOut a b os l' r' e') : l = l' ∧ r = r' ∧ e = e' := by
  rcases h with ⟨h1, rfl, rfl, rfl⟩ | ⟨h1, ok, rfl, rfl, rfl⟩ | ⟨h1, n, hn, ok, bad, rfl, rfl, rfl⟩ <;> rcases h' with ⟨g1, rfl, rfl, rfl⟩ | ⟨g1, ok', rfl, rfl, rfl⟩ | ⟨g1, n', hn', ok', bad', rfl, rfl, rfl⟩
  · exact ⟨rfl, rfl, rfl⟩
  · exact absurd g1 h1
  · exact absurd g1 h1
  · exact absurd h1 g1
  · exact ⟨rfl, rfl, rfl⟩
  · exact absurd bad' (ok n' hn')
  · exact absurd h1 g1
  · exact absurd bad (ok' n hn)
  · have : n = n' := by
      rcases Nat.lt_trichotomy n n' with g | g | g
      · exact absurd bad (ok' n g)
      · exact g
      · exact absurd bad' (ok n' g)
    subst this
    exact ⟨rfl, rfl, rfl⟩
theorem mem_refN {a : List Int} {os : List Nat} {n x : Nat} : x ∈ refN a os n ↔ x < a.length ∧ x ∈ os.take (n + 1) := by unfold refN; simp
theorem refN_perm {a : List Int} {os : List Nat} (O : IsOrd a os) (n : Nat) : (refN a os n).Perm (os.take (n + 1)) := by
  refine (List.perm_ext_iff_of_nodup ?_ ?_).2 fun x => ?_
  · exact List.Pairwise.filter _ List.nodup_range
  · exact List.Pairwise.sublist (List.take_sublist _ _) O.nodup
  · rw [mem_refN]
    exact ⟨fun h => h.2, fun h => ⟨(O.mem.1 (List.mem_of_mem_take h)).1, h⟩⟩
theorem srt_take {a : List Int} {os : List Nat} (O : IsOrd a os) (n : Nat) : srt (toZ (os.take (n + 1))) = refL a os n := by
  have h1 : (srt (toZ (os.take (n + 1)))).Pairwise (fun x y => x ≤ y) := by
    have := List.pairwise_mergeSort (le := fun x y : Int => decide (x ≤ y)) (fun x y z h1 h2 => decide_eq_true (Int.le_trans (of_decide_eq_true h1) (of_decide_eq_true h2))) (fun x y => by rcases Int.le_total x y with h | h <;> simp [h]) (toZ (os.take (n + 1)))
    exact this.imp fun h => of_decide_eq_true h
  have h2 : (refL a os n).Pairwise (fun x y => x ≤ y) := by
    unfold refL toZ refN
    rw [List.pairwise_map]
    exact List.Pairwise.filter _ (List.pairwise_lt_range.imp fun h => by omega)
  refine List.Perm.eq_of_pairwise (fun x y _ _ h3 h4 => Int.le_antisymm h3 h4) h1 h2 ?_
  refine (List.mergeSort_perm _ _).trans ?_
  exact ((refN_perm O n).map _).symm
def MatPost (a b : List Int) (w : World) (e : Ending) (w' : World) : Prop :=
  ∃ os vl vr l r er, e = .returned (.tuple #[vl, vr, .int .i64 er]) ∧ IsOrd a os ∧ MOut a b os l r er ∧ Own .i64 3 w' w.heap.size vl l ∧ Own .i64 3 w' w.heap.size vr r ∧ Below w.heap.size w w'
/-- The state while the loads are treated: g is the assignment, t the marks, vo the order. -/
structure MSt (a b : List Int) (os : List Nat) (L : Nat) (w : World) (g t B : Nat) (vo : Value) (k : Nat) (wr : World) : Prop where
  lo : Own .i64 3 wr w.heap.size (.slice (some ⟨g, 0, none⟩) L L) (stM a b os k).2
  bs : BSet wr t (stM a b os k).1
  ord : Own .i64 3 wr B vo (toZ os)
  gt : g ≠ t
  gB : g < B
  tB : t < B
  gw : w.heap.size ≤ g
  tw : w.heap.size ≤ t
  bel : Below w.heap.size w wr
theorem MSt.step {a b : List Int} {os : List Nat} {L : Nat} {w : World} {g t B : Nat} {vo : Value} {k : Nat} {wr : World} (h : MSt a b os L w g t B vo k wr) (hL : L = a.length) {x y : Nat} (hx : os.getD k 0 = x) (hy : yM a b os k = (y : Int)) :
    MSt a b os L w g t B vo (k + 1) ((wr.setCell ⟨g, x, none⟩ (.int .i64 (y : Int))).setCell ⟨t, y, none⟩ (.bool true)) := by
  have es := stM_succ a b os k
  rw [hy, Int.toNat_natCast, hx] at es
  refine ⟨?_, ?_, ?_, h.gt, h.gB, h.tB, h.gw, h.tw, (h.bel.setCell (p := ⟨g, x, none⟩) h.gw _).setCell (p := ⟨t, y, none⟩) h.tw _⟩
  · rw [es]
    refine (h.lo.store (by rw [(stM_len a b os k).2, hL]) x (y : Int)).setN (fun g' hg' => ?_) _
    have e : g = g' := by simpa [Value.ownBlock] using hg'
    subst e
    exact h.gt
  · rw [es]
    exact (h.bs.setN (p := ⟨g, x, none⟩) (Ne.symm h.gt) _).set y true
  · exact (h.ord.setN (p := ⟨g, x, none⟩) (fun g' hg' => by have := (own_block h.ord hg').1; have h2 := h.gB; show g' ≠ g; omega) _).setN (p := ⟨t, y, none⟩) (fun g' hg' => by
      have := (own_block (h.ord.setN (p := ⟨g, x, none⟩) (fun g' hg' => by have := (own_block h.ord hg').1; have h2 := h.gB; show g' ≠ g; omega) (.int .i64 (y : Int))) hg').1
      have h2 := h.tB
      show g' ≠ t; omega) _
set_option maxRecDepth 100000 in
set_option maxHeartbeats 6400000 in
theorem match_any (a b : List Int) (A Bb : Option Addr) (ca cb : Nat) (w : World) (ha : Row .i64 w w.heap.size A a) (hla : a.length ≤ maxLen) (hb : Row .i64 w w.heap.size Bb b) (hlb : b.length ≤ maxLen) :
    Calls Try.prog 8 #[.slice A a.length ca, .slice Bb b.length cb] w (MatPost a b w) := by
  have HV := Lib.hid (valid_any a b A Bb ca cb w ha hla hb hlb)
  have HA := Lib.hid ha
  have HB := Lib.hid hb
  obtain ⟨os0, hos0⟩ := exists_ord a
  have HO0 := Lib.hid hos0
  by_cases hv : valR a b = 0
  · have V := vd_of hv
    have HVD := Lib.hid V
    have HVR := Lib.hid hv
    have hl1 := V.la
    have hl2 := V.lb
    rw [hv] at HV
    obtain ⟨L, hL⟩ : ∃ n, n = a.length := ⟨_, rfl⟩
    obtain ⟨M, hM⟩ : ∃ n, n = b.length := ⟨_, rfl⟩
    have HL := Lib.hid hL
    have HM := Lib.hid hM
    rw [← hL] at HV hl1 ⊢
    rw [← hM] at HV hl2 ⊢
    clear ha hla hb hlb V hv hL hM hos0 HO0
    go_enter Try.func8, Try.ntmps8
    go_wp2_with fail
    refine HV.out.mono ?_
    rintro e w1 ⟨rfl, hw⟩
    subst hw
    clear HV
    go_wp2_with fail
    have hc1 : (w.alloc (.cells #[.int .i64 (-1)] 3)).cell? ⟨w.heap.size, 0, none⟩ = some (.int .i64 (-1)) := by rw [cell_new]; rfl
    have B0 := Lib.hid ((Below.refl w.heap.size w).alloc (Nat.le_refl _) (.cells #[.int .i64 (-1)] 3))
    refine (repeat_any (-1) L w.heap.size (by omega) _ hc1).mono ?_
    rintro e w2 ⟨g, rfl, og, bg⟩
    have B1 := Lib.hid (B0.out.trans (bg.mono B0.out.size))
    have O1 := Lib.hid (og.base B0.out.size)
    clear hc1 og bg B0
    have mk := make_bools w2 M (by omega)
    obtain ⟨CB, hCB⟩ : ∃ C, C = ((List.replicate M false).map Value.bool).toArray := ⟨_, rfl⟩
    have hbs := BSet.new w2 (List.replicate M false) w2.heap.size rfl
    rw [← hCB] at mk hbs
    clear hCB
    have B2 := Lib.hid (B1.out.alloc B1.out.size (.cells CB 4))
    have HGL := Lib.hid (own_block O1.out (g := g) rfl)
    have O2 := Lib.hid (O1.out.alloc (.cells CB 4))
    have HS2 := Lib.hid (show w2.heap.size < (w2.alloc (.cells CB 4)).heap.size by simp)
    have BS2 := Lib.hid hbs
    clear hbs
    go_upto_region 6 with fail
    clear mk
    obtain ⟨t, ht⟩ : ∃ t, t = w2.heap.size := ⟨_, rfl⟩
    have HW2 := Lib.hid B1.out.size
    rw [← ht] at BS2 HS2 HGL HW2 ⊢
    generalize w2.alloc (.cells CB 4) = w3 at *
    clear ht B1 O1
    have HA3 := Lib.hid (HA.out.below B2.out)
    have HG3 := Lib.hid (show Calls Try.prog 23 #[.slice A L ca] w3 (GrtPost a w3) by rw [HL.out]; exact greatest_any a A ca w3 HA3.out (by rw [← HL.out]; exact hl1))
    go_wp2_with fail
    refine HG3.out.mono ?_
    rintro e w4 ⟨vo, os, rfl, hO, oo, bo⟩
    have HO := Lib.hid hO
    have S0 := Lib.hid (show MSt a b os L w g t w3.heap.size vo 0 w4 from ⟨by
        have h0 := O2.out.below bo
        rw [HL.out] at h0 ⊢
        exact h0, by
        have h0 := BS2.out.below bo HS2.out
        rw [HM.out] at h0
        exact h0, oo, by have := HGL.out; omega, by have := HGL.out; have := HS2.out; omega, HS2.out, HGL.out.1, HW2.out, B2.out.trans (bo.mono B2.out.size)⟩)
    obtain ⟨Ao, co, eo, ro, hoc, hom, -⟩ := oo.slice
    have hol : (toZ os).length = os.length := by simp
    rw [hol] at eo hoc
    have hosl := hO.len
    rw [← HL.out] at hosl
    obtain ⟨n, hn⟩ : ∃ n, n = os.length := ⟨_, rfl⟩
    rw [← hn] at eo hosl hoc
    have HN := Lib.hid hn
    have HOC := Lib.hid hoc
    subst eo
    clear hO oo bo ro hol hn HG3 HA3 O2 BS2 HS2 HGL HW2 B2 hom hoc
    go_wp2_with fail
    go_loopw [4, 30] (fun lv iv wr => ∃ k : Nat, k ≤ n ∧ iv = .int .i64 (k : Int) ∧ lv = .slice (some ⟨g, 0, none⟩) L L ∧ Hid (OkTo a b os k) ∧ Hid (MSt a b os L w g t w3.heap.size (.slice Ao n co) k wr)) (fun _ iv _ => n - (intOf iv).toNat)
    case atStart => exact ⟨0, by omega, rfl, rfl, Lib.hid (fun k hk => absurd hk (Nat.not_lt_zero _)), S0⟩
    case round =>
      clear S0
      obtain ⟨k, hk, rfl, rfl, OK, S⟩ := hrel
      have HAR := Lib.hid (HA.out.below S.out.bel)
      have HBR := Lib.hid (HB.out.below S.out.bel)
      by_cases hlt : k < n
      · have hltz : (k : Int) < (n : Int) := by omega
        obtain ⟨Ao', co', e2, ro, -, -, -⟩ := S.out.ord.slice
        injection e2 with e2 e3 e4
        subst e2
        subst e4
        clear e3
        have hkl : k < os.length := by rw [← HN.out]; exact hlt
        obtain ⟨ad, rfl, -, c1⟩ := ro k (by simpa using hkl)
        obtain ⟨x, hx⟩ : ∃ x, x = os.getD k 0 := ⟨_, rfl⟩
        have hxz : (toZ os).getD k 0 = (x : Int) := by rw [hx]; simp [List.getD_eq_getElem?_getD, hkl]
        rw [hxz] at c1
        have hxL : x < L := by rw [hx, HL.out]; exact (HO.out.at_ hkl).1
        obtain ⟨aa, rfl, -, c2⟩ := HAR.out x (by rw [← HL.out]; exact hxL)
        obtain ⟨zx, hzx⟩ : ∃ z, z = ld a x := ⟨_, rfl⟩
        change wr.cell? _ = some (Value.int .i64 (ld a x)) at c2
        rw [← hzx] at c2
        have HX := Lib.hid hx
        have hxLz : (x : Int) < (L : Int) := by omega
        have hlb := (stM_len a b os k).1
        have HSH := Lib.hid (show Calls Try.prog 24 #[.slice Bb M cb, .slice (some ⟨t, 0, none⟩) M M, .int .i64 zx] wr fun e w' => e = .returned (.int .i64 (yM a b os k)) ∧ wr = w' from by
          have h0 := shortest_any b (stM a b os k).1 zx Bb cb t M wr HBR.out (by unfold maxLen; have := HM.out; omega) S.out.bs hlb
          rw [hlb, ← HM.out] at h0
          unfold yM
          rw [← hx, ← hzx, ← HM.out]
          exact h0)
        clear ro hxz hlb hx hzx
        go_wp2_with fail
        refine HSH.out.mono ?_
        rintro e w5 ⟨rfl, hw⟩
        subst hw
        clear HSH c1 c2
        by_cases hy : yM a b os k = -1
        · have HBAD := Lib.hid hy
          rw [hy]
          clear hy
          have hsl := slice_to (some ad) n co (k + 1) wr (by have := HOC.out; omega)
          have eKc : ((k + 1 : Nat) : Int) = (k : Int) + 1 := by omega
          rw [eKc] at hsl
          have hr1 : Row .i64 wr wr.heap.size (some ad) (toZ (os.take (k + 1))) := by
            obtain ⟨A2, c2, e5, r5, -⟩ := S.out.ord.slice
            injection e5 with e5
            subst e5
            have h7 := r5.take (k + 1)
            rwa [← List.map_take] at h7
          have HR1 := Lib.hid hr1
          have HTL := Lib.hid (show (toZ (os.take (k + 1))).length = k + 1 by simp; rw [← HN.out]; omega)
          clear hr1 eKc
          go_wp2_with fail
          clear hsl
          refine (values_any (some ad) co (k + 1) wr).mono ?_
          rintro e w6 ⟨rfl, rfl⟩
          have hbc : (wr.alloc (.cells #[.slice (some ad) (k + 1) co] 22)).cell? ⟨wr.heap.size, 0, none⟩ = some (.slice (some ad) (k + 1) co) := by rw [cell_new]; rfl
          have BA := Lib.hid ((Below.refl wr.heap.size wr).alloc (Nat.le_refl _) (.cells #[.slice (some ad) (k + 1) co] 22))
          have HSD := Lib.hid (sorted_any wr.heap.size (some ad) co (k + 1) (toZ (os.take (k + 1))) HTL.out (by omega) _ hbc (HR1.out.below BA.out))
          clear hbc
          go_wp2_with fail
          refine HSD.out.mono ?_
          rintro e w7 ⟨vr, rfl, ov, bv⟩
          have HOV := Lib.hid ov
          have HBV := Lib.hid bv
          clear ov bv HSD
          go_wp2_with fail
          go_ret3
          refine ⟨os, _, vr, [], refL a os k, 14, rfl, HO.out, Or.inr (Or.inr ⟨HVR.out, k, by rw [← HN.out]; exact hlt, OK.out, HBAD.out, rfl, rfl, rfl⟩), Own.nil, ?_, ?_⟩
          · rw [← srt_take HO.out]
            exact HOV.out.base (Nat.le_trans S.out.bel.size BA.out.size)
          · exact S.out.bel.trans ((BA.out.trans (HBV.out.mono BA.out.size)).mono S.out.bel.size)
        · have I := invM HO.out (k + 1) (by rw [← HN.out]; exact hlt) (OK.out.succ hy)
          obtain ⟨y, hyy, hyl, -⟩ := I.fit k (by omega)
          have HOK := Lib.hid (OK.out.succ hy)
          have HS2 := Lib.hid (S.out.step HL.out HX.out.symm hyy)
          have cg := S.out.lo.cell (by rw [(stM_len a b os k).2, HL.out]) x (by rw [(stM_len a b os k).2, ← HL.out]; exact hxL)
          have fg := S.out.lo.frozen (by rw [(stM_len a b os k).2, HL.out]) x
          have ct0 := S.out.bs.cell y (by rw [(stM_len a b os k).1]; exact hyl)
          have ft0 := S.out.bs.frozen y
          have hyM : (y : Int) < (M : Int) := by have := HM.out; omega
          have hyM2 : y < M := by omega
          have ct : (wr.setCell ⟨g, x, none⟩ (.int .i64 (y : Int))).cell? ⟨t, y, none⟩ = some (.bool ((stM a b os k).1.getD y false)) := (World.cell?_setCell_other _ _ _ _ (fun e => S.out.gt (congrArg Addr.block e))).trans ct0
          have ft : (wr.setCell ⟨g, x, none⟩ (.int .i64 (y : Int))).frozen? ⟨t, y, none⟩ = false := by rw [World.frozen?_setCell]; exact ft0
          have hyn : ((y : Int) == -1) = false := by first | (simp; done) | (simp; omega)
          generalize (stM a b os k).2.getD x 0 = q1 at *
          generalize (stM a b os k).1.getD y false = q2 at *
          rw [hyy]
          clear I hy hyy hyl ct0 ft0 HAR HBR OK
          go_wp2_with fail
          go_roundw
          case rel => exact ⟨k + 1, by omega, by go_num, rfl, HOK, HS2⟩
          case measure => simp [intOf]; omega
      · obtain rfl : k = n := by omega
        have hltz : ¬ (k : Int) < (k : Int) := by omega
        go_wp2_with fail
        go_ret3
        refine ⟨os, _, _, (stM a b os k).2, [], 0, rfl, HO.out, Or.inr (Or.inl ⟨HVR.out, by rw [← HN.out]; exact OK.out, by rw [← HN.out], rfl, rfl⟩), S.out.lo, Own.nil, S.out.bel⟩
  · have HVR := Lib.hid hv
    obtain ⟨ev, hev⟩ : ∃ z, z = valR a b := ⟨_, rfl⟩
    rw [← hev] at HV
    have HEV := Lib.hid hev
    have hne : (ev != 0) = true := by rw [hev]; simpa using hv
    obtain ⟨L, hL⟩ : ∃ n, n = a.length := ⟨_, rfl⟩
    obtain ⟨M, hM⟩ : ∃ n, n = b.length := ⟨_, rfl⟩
    rw [← hL] at HV ⊢
    rw [← hM] at HV ⊢
    clear ha hla hb hlb hv hL hM hos0 hev
    go_enter Try.func8, Try.ntmps8
    go_wp2_with fail
    refine HV.out.mono ?_
    rintro e w1 ⟨rfl, hw⟩
    subst hw
    clear HV
    go_wp2_with fail
    go_ret3
    exact ⟨os0, _, _, [], [], ev, rfl, HO0.out, Or.inl ⟨HVR.out, rfl, rfl, HEV.out⟩, Own.nil, Own.nil, Below.refl _ _⟩
end Go.Proofs.Ytknkgcphamhjlaa
