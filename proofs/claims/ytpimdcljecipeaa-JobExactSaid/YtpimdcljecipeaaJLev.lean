/-
  Stage 11: the program's Levels.
-/
import Derived.Test.YtpimdcljecipeaaJSort
import Derived.Test.YtpimdcljecipeaaJBox
set_option linter.unusedSimpArgs false
set_option linter.unusedVariables false
namespace Go.Proofs.Ytpimdcljecipeaa
open Go.RowKit Go.Lib

/-- The levels, behind the first k of the order. -/
structure LInv (l : List It) (os : List Nat) (k : Nat) (zs : List Int) : Prop where
  len : zs.length = l.length
  fin : ∀ i, i < k → IsMaxP (fun x => x < l.length) (fun x => via l zs x (os.getD i 0)) (zs.getD (os.getD i 0) 0)
  rest : ∀ i, k ≤ i → i < os.length → zs.getD (os.getD i 0) 0 = 0
  bd : ∀ y, y < l.length → 0 ≤ zs.getD y 0 ∧ zs.getD y 0 ≤ blk l y
theorem ByBlk.len {l : List It} {os : List Nat} (h : ByBlk l os) : os.length = l.length := by
  have := h.perm.length_eq; simpa using this
theorem ByBlk.lt {l : List It} {os : List Nat} (h : ByBlk l os) {i : Nat} (hi : i < os.length) : os.getD i 0 < l.length := by
  have := h.perm.mem_iff.1 (getD_memN hi)
  simpa using this
theorem ByBlk.inj {l : List It} {os : List Nat} (h : ByBlk l os) {i j : Nat} (hi : i < os.length) (hj : j < os.length) (e : os.getD i 0 = os.getD j 0) : i = j := by
  have hn : os.Nodup := h.perm.nodup_iff.2 List.nodup_range
  rw [List.getD_eq_getElem?_getD, List.getElem?_eq_getElem hi, List.getD_eq_getElem?_getD, List.getElem?_eq_getElem hj] at e
  exact (List.getElem_inj hn).1 e
theorem ByBlk.all {l : List It} {os : List Nat} (h : ByBlk l os) {x : Nat} (hx : x < l.length) : ∃ i, i < os.length ∧ os.getD i 0 = x := by
  have : x ∈ os := h.perm.mem_iff.2 (List.mem_range.2 hx)
  obtain ⟨i, hi⟩ := List.mem_iff_getElem?.1 this
  have hl := (List.getElem?_eq_some_iff.1 hi).1
  exact ⟨i, hl, by rw [List.getD_eq_getElem?_getD, hi]; rfl⟩
theorem LInv.start {l : List It} {os : List Nat} (hb : BlkOk l) : LInv l os 0 (List.replicate l.length 0) := by
  have e : ∀ y, (List.replicate l.length (0 : Int)).getD y 0 = 0 := fun y => by
    rw [List.getD_eq_getElem?_getD, List.getElem?_replicate]; split <;> rfl
  exact ⟨by simp, fun i h => absurd h (Nat.not_lt_zero _), fun i _ _ => e _, fun y hy => by rw [e]; have := (hb y hy).1; omega⟩
/-- The greatest over those that stand ahead in the order is the greatest over all. -/
theorem LInv.next {l : List It} {os : List Nat} {k : Nat} {zs : List Int} {M : Int} (h : LInv l os k zs) (ho : ByBlk l os) (hb : BlkOk l) (hk : k < os.length)
    (hM : IsMaxP (fun x => ∃ i, i < k ∧ os.getD i 0 = x) (fun x => via l zs x (os.getD k 0)) M) : LInv l os (k + 1) (zs.set (os.getD k 0) M) := by
  have hy := ho.lt hk
  have hyl : os.getD k 0 < zs.length := by rw [h.len]; exact hy
  -- what is changed is read for none of those that are finished
  have same : ∀ x i, i ≤ k → via l (zs.set (os.getD k 0) M) x (os.getD i 0) = via l zs x (os.getD i 0) := fun x i hi => via_same fun g => by
    by_cases e : os.getD k 0 = x
    · have h1 := (rel_pos g).2
      rw [← e] at h1
      have : blk l (os.getD i 0) ≤ blk l (os.getD k 0) := by
        rcases Nat.lt_or_ge i k with h2 | h2
        · exact ho.asc i k h2 hk
        · have : i = k := by omega
          rw [this]; exact Int.le_refl _
      omega
    · exact getD_set_other e M
  refine ⟨by rw [List.length_set]; exact h.len, fun i hi => ?_, fun i h1 h2 => ?_, fun y hy' => ?_⟩
  · rcases Nat.lt_or_ge i k with h1 | h1
    · have hne : os.getD k 0 ≠ os.getD i 0 := fun e => by have := ho.inj hk (by omega) e; omega
      rw [getD_set_other hne]
      exact (h.fin i h1).congr (fun _ => Iff.rfl) (fun x _ => (same x i (by omega)).symm)
    · have e : i = k := by omega
      subst e
      rw [getD_set_same hyl]
      refine (hM.wide (q := fun x => x < l.length) (fun x hx => ?_) (fun x hx => ?_)).congr (fun _ => Iff.rfl) (fun x _ => (same x i (Nat.le_refl _)).symm)
      · obtain ⟨j, hj, rfl⟩ := hx; exact ho.lt (by omega)
      · obtain ⟨j, hj, rfl⟩ := ho.all hx
        rcases Nat.lt_or_ge j i with h2 | h2
        · exact Or.inl ⟨j, h2, rfl⟩
        · refine Or.inr (Int.le_of_eq (via_zero (rel_ge ?_)))
          rcases Nat.lt_or_ge i j with h3 | h3
          · exact ho.asc i j h3 hj
          · have : j = i := by omega
            rw [this]; exact Int.le_refl _
  · have hne : os.getD k 0 ≠ os.getD i 0 := fun e => by have := ho.inj hk h2 e; omega
    rw [getD_set_other hne]
    exact h.rest i (by omega) h2
  · by_cases e : os.getD k 0 = y
    · subst e
      rw [getD_set_same hyl]
      refine ⟨hM.pos, ?_⟩
      have hb0 := (hb _ hy).1
      rcases hM.hit with e | ⟨x, ⟨j, hj, rfl⟩, e⟩
      · omega
      · have hjl := ho.lt (i := j) (by omega)
        have e' : via l zs (os.getD j 0) (os.getD k 0) = M := e
        by_cases g : rel l (os.getD j 0) (os.getD k 0) = 0
        · rw [via_zero g] at e'; omega
        · rw [via_pos g] at e'
          have h1 := (rel_pos g).2
          have h2 := (h.bd _ hjl).2
          rcases rel_cases l (os.getD j 0) (os.getD k 0) with c | c | c <;> omega
    · rw [getD_set_other e]; exact h.bd y hy'
theorem LInv.done {l : List It} {os : List Nat} {zs : List Int} (h : LInv l os os.length zs) (ho : ByBlk l os) : Lev l zs :=
  ⟨h.len, fun y hy => by obtain ⟨i, hi, rfl⟩ := ho.all hy; exact h.fin i hi⟩
def LevPost (l : List It) (wt : Int) (w : World) (e : Ending) (w' : World) : Prop :=
  ∃ v zs, e = .returned (.tuple #[v, .int .i64 (validR l wt)]) ∧ Own .i64 3 w' w.heap.size v zs ∧ (validR l wt = 0 → Lev l zs) ∧ (validR l wt ≠ 0 → zs = []) ∧ Below w.heap.size w w'
set_option maxRecDepth 100000 in
set_option maxHeartbeats 1600000 in
theorem levels_any (l : List It) (A : Option Addr) (c : Nat) (wt : Int) (w : World) (h : IRow w A l) :
    Calls Try.prog 17 #[jv A l.length c wt] w (LevPost l wt w) := by
  have H := Lib.hid h
  obtain ⟨L, hL⟩ : ∃ n, n = l.length := ⟨_, rfl⟩
  have HL := Lib.hid hL
  have HVL := Lib.hid (fun (W : World) (k : IRow W A l) => valid_any l A c wt W k)
  rw [← hL] at HVL ⊢
  have B0 := Lib.hid ((Below.refl w.heap.size w).alloc (Nat.le_refl _) (.cells #[.slice A L c, .int .i64 wt] 25))
  have J0 := Lib.hid (JBox.new (w := w) (A := A) (n := L) (c := c) (wt := wt) w.heap.size rfl)
  obtain ⟨b, hb⟩ : ∃ b, b = w.heap.size := ⟨_, rfl⟩
  have HB := Lib.hid hb
  clear h hL
  go_enter Try.func17, Try.ntmps17
  go_upto_region 1 with fail
  rw [← hb] at J0 ⊢
  generalize w.alloc (.cells #[.slice A L c, .int .i64 wt] 25) = w1 at *
  obtain ⟨j0, j1, jl⟩ := J0.out
  clear hb
  go_wp2_with fail
  refine (HVL.out w1 (H.out.below B0.out)).mono ?_
  rintro e w2 ⟨rfl, hB2⟩
  have J2 := Lib.hid (J0.out.below hB2 jl)
  have B2 := Lib.hid (B0.out.trans (hB2.mono B0.out.size))
  clear j0 j1 jl J0 B0 hB2
  obtain ⟨j0, j1, jl⟩ := J2.out
  by_cases he : validR l wt = 0
  · obtain ⟨p1, p2, p3⟩ := valid_ok he
    have HE := Lib.hid he
    have HOK := Lib.hid p3
    rw [he]
    rw [← HL.out] at p1
    clear he p2 p3
    go_wp2_with fail
    have hby := byblocks_any l A c w2 (H.out.below B2.out) (by rw [← HL.out]; exact p1)
    rw [← HL.out] at hby
    refine hby.mono ?_
    rintro e w3 ⟨vo, os, rfl, hos, O, hB3⟩
    have hol := hos.len
    rw [← HL.out] at hol
    have HOS := Lib.hid hos
    obtain ⟨oA, oc, rfl, hR, hcc, hmm, -⟩ := O.slice
    rw [toZ_len, hol] at hcc hmm ⊢
    have J3 := Lib.hid (J2.out.below hB3 jl)
    have B3 := Lib.hid (B2.out.trans (hB3.mono B2.out.size))
    have R3 := Lib.hid hR
    have HOL := Lib.hid hol
    clear j0 j1 jl O hby hB3 hR hos hol B2 J2
    obtain ⟨j0, j1, jl⟩ := J3.out
    have hmk := make_ints w3 L (by omega)
    have O0 := Lib.hid (Own.laid (k := .i64) (T := 3) w3 w3.heap.size (Nat.le_refl _) (List.replicate L 0) L (by simp) (by omega))
    have B4 := Lib.hid ((Below.refl w3.heap.size w3).alloc (Nat.le_refl _) (.cells ((List.replicate L 0).map (Value.int .i64)).toArray 3))
    have LI := Lib.hid (LInv.start (os := os) HOK.out)
    rw [← HL.out] at LI
    obtain ⟨g, hg⟩ : ∃ g, g = w3.heap.size := ⟨_, rfl⟩
    have HG := Lib.hid hg
    rw [← hg] at O0 hmk B4
    generalize w3.alloc (.cells ((List.replicate L 0).map (Value.int .i64)).toArray 3) = w4 at *
    generalize List.replicate L (0 : Int) = z0 at *
    clear hg
    go_wp2_with fail
    go_loopw [25] (fun iv wr => ∃ (k : Nat) (zs : List Int), k ≤ L ∧ iv = .int .i64 (k : Int) ∧ Hid (Own .i64 3 wr g (.slice (some ⟨g, 0, none⟩) L L) zs) ∧ Hid (LInv l os k zs) ∧ Hid (Below g w3 wr)) (fun iv _ => L - (intOf iv).toNat)
    case atStart => exact ⟨0, z0, by omega, rfl, O0, LI, B4⟩
    case round =>
      clear O0 LI B4 hmk j0 j1 jl
      obtain ⟨k, zs, hk, rfl, O, I, B⟩ := hrel
      by_cases hlt : k < L
      · have hRr := R3.out.under (by rw [← HG.out]; exact B.out)
        obtain ⟨oad, rfl, _, ok⟩ := hRr k (by rw [toZ_len, HOL.out]; exact hlt)
        rw [toZ_at _ (by rw [HOL.out]; exact hlt)] at ok
        have hy := HOS.out.lt (i := k) (by rw [HOL.out]; exact hlt)
        rw [← HL.out] at hy
        obtain ⟨y, hyy⟩ : ∃ y, y = os.getD k 0 := ⟨_, rfl⟩
        have HY := Lib.hid hyy
        rw [← hyy] at ok hy
        clear hRr hyy
        go_wp2_with fail
        have HY0 := Lib.hid (show zs.getD y 0 = 0 by rw [HY.out]; exact I.out.rest k (Nat.le_refl _) (by rw [HOL.out]; exact hlt))
        have HZL := Lib.hid (show zs.length = L by rw [HL.out]; exact I.out.len)
        go_loopw [34] (fun jx wi => ∃ (i : Nat) (M : Int), i ≤ k ∧ jx = .int .i64 (i : Int) ∧ Hid (Own .i64 3 wi g (.slice (some ⟨g, 0, none⟩) L L) (zs.set y M)) ∧ Hid (IsMaxP (fun x => ∃ i', i' < i ∧ os.getD i' 0 = x) (fun x => via l zs x y) M) ∧ Hid (Below g w3 wi)) (fun jx _ => k - (intOf jx).toNat)
        case atStart =>
          refine ⟨0, 0, by omega, rfl, Lib.hid ?_, Lib.hid ⟨Int.le_refl _, fun x hx => ?_, Or.inl rfl⟩, B⟩
          · have e : zs.set y 0 = zs := by
              refine List.ext_getElem? fun j => ?_
              rw [List.getElem?_set]
              by_cases hj : y = j
              · subst hj
                have hyl : y < zs.length := by rw [HZL.out]; exact hy
                have := HY0.out
                rw [List.getD_eq_getElem?_getD, List.getElem?_eq_getElem hyl] at this
                rw [if_pos rfl, if_pos hyl, List.getElem?_eq_getElem hyl]
                exact congrArg some this.symm
              · rw [if_neg hj]
            rw [e]; exact O.out
          · obtain ⟨i', h1, _⟩ := hx; omega
        case round =>
          clear O B ok
          obtain ⟨i, M, hi, rfl, Oi, HM, Bi⟩ := hrel
          by_cases hli : i < k
          · have hRr := R3.out.under (by rw [← HG.out]; exact Bi.out)
            obtain ⟨oad', e', _, ox⟩ := hRr i (by rw [toZ_len, HOL.out]; omega)
            obtain rfl : oad = oad' := by injection e'
            rw [toZ_at _ (by rw [HOL.out]; omega)] at ox
            have hx := HOS.out.lt (i := i) (by rw [HOL.out]; omega)
            rw [← HL.out] at hx
            obtain ⟨x, hxx⟩ : ∃ x, x = os.getD i 0 := ⟨_, rfl⟩
            have HX := Lib.hid hxx
            rw [← hxx] at ox hx
            have hzl : (zs.set y M).length = L := by rw [List.length_set]; exact HZL.out
            have d := Oi.out.cell hzl.symm y (by rw [hzl]; exact hy)
            rw [getD_set_same (by rw [HZL.out]; exact hy)] at d
            have fz := Oi.out.frozen hzl.symm y
            have hgw : g < wr.heap.size := (own_block Oi.out (g := g) rfl).2
            have hbd : M ≤ 32 := by
              rcases HM.out.hit with e | ⟨x', ⟨i', h1, h2⟩, e⟩
              · omega
              · have e2 : via l zs x' y = M := e
                have hx' := HOS.out.lt (i := i') (by rw [HOL.out]; omega)
                rw [h2] at hx'
                have h3 := (I.out.bd x' hx').2
                have h4 := (HOK.out x' hx').2
                by_cases gr : rel l x' y = 0
                · rw [via_zero gr] at e2; omega
                · rw [via_pos gr] at e2
                  rcases rel_cases l x' y with cc | cc | cc <;> omega
            have HV := Lib.hid (fun (q : Nat) => levelVia_any l A (some ⟨g, 0, none⟩) c L L (zs.set y M) x y (by rw [← HL.out]; exact hx) (by rw [← HL.out]; exact hy) (wr.drewN q) ((H.out.below (B3.out.trans ((show Below w3.heap.size w3 wr by rw [← HG.out]; exact Bi.out).mono B3.out.size))).drewN q) (by
              obtain ⟨A', c', e1, R', _⟩ := Oi.out.slice
              injection e1 with e1
              subst e1
              exact R'.drewN q) hzl.symm (by rw [hzl, HL.out]) (fun z hz => by
                by_cases e : y = z
                · subst e; rw [getD_set_same (by rw [HZL.out]; exact hy)]; have := HM.out.pos; omega
                · rw [getD_set_other e]
                  have h3 := I.out.bd z hz
                  have h4 := (HOK.out z hz).2
                  omega))
            rw [← HL.out] at HV
            have hvs : via l (zs.set y M) x y = via l zs x y := via_same fun gr => by
              refine getD_set_other (fun e => ?_) M
              subst e
              have := (rel_pos gr).2; omega
            rw [hvs] at HV
            obtain ⟨vv, hvv⟩ : ∃ vv, vv = via l zs x y := ⟨_, rfl⟩
            rw [← hvv] at HV
            obtain ⟨M2, hM2⟩ : ∃ t, t = max2 M vv := ⟨_, rfl⟩
            have hmx : ∀ w ts t, (Builtin.max_ ts t #[.int .i64 M, .int .i64 vv]).run Try.prog w = .ok (.int .i64 M2) w := fun w ts t => by rw [run_max2, hM2]
            have HN := Lib.hid (show IsMaxP (fun x => ∃ i', i' < i + 1 ∧ os.getD i' 0 = x) (fun x => via l zs x y) M2 from HM.out.more (y := x) (fun x' => ⟨fun ⟨i', h1, h2⟩ => by
                rcases Nat.lt_or_ge i' i with h3 | h3
                · exact Or.inl ⟨i', h3, h2⟩
                · have : i' = i := by omega
                  subst this
                  exact Or.inr (by rw [← h2, HX.out]), fun hh => by
                rcases hh with ⟨i', h1, h2⟩ | h2
                · exact ⟨i', by omega, h2⟩
                · exact ⟨i, by omega, by rw [h2, HX.out]⟩⟩) (by rw [hM2, hvv]; rfl))
            have O2 := Lib.hid (by
              have := Oi.out.store hzl.symm y M2
              rwa [List.set_set] at this)
            have B2 := Lib.hid (Bi.out.setCell (p := ⟨g, y, none⟩) (Nat.le_refl g) (.int .i64 M2))
            have J5 := J3.out.below Bi.out (by rw [HG.out]; exact J3.out.lt)
            obtain ⟨j0, j1, jl⟩ := J5
            have hyi : (y : Int) < (L : Int) := by omega
            have hii : (i : Int) < (k : Int) := by omega
            clear hM2 hvv hvs e' hRr hxx hzl HM Oi Bi
            go_wp2_with fail
            go_region_law (go_simp; go_at_call 30; refine (HV.out 1).mono ?_; rintro e w7 ⟨rfl, q, rfl⟩)
            all_goals
              clear ox d fz j0 j1 jl hmx
              go_wp2_with fail
              go_roundw
              case rel => exact ⟨i + 1, M2, by omega, by go_num, Lib.hid (O2.out.drewN _), HN, Lib.hid (bdn B2.out)⟩
              case measure => simp [intOf]; omega
          · obtain rfl : i = k := by omega
            have I2 := Lib.hid (I.out.next HOS.out HOK.out (by rw [HOL.out]; exact hlt) (M := M) (by rw [← HY.out]; exact HM.out))
            rw [← HY.out] at I2
            clear hli
            go_wp2_with fail
            go_roundw
            case rel => exact ⟨i + 1, zs.set y M, by omega, by go_num, Oi, I2, Bi⟩
            case measure => simp [intOf]; omega
      · obtain rfl : k = L := by omega
        have I2 := I.out
        rw [← HOL.out] at I2
        have HLV := Lib.hid (I2.done HOS.out)
        have hle : w.heap.size ≤ g := by rw [HG.out]; exact B3.out.size
        have O2 := Lib.hid (O.out.base hle)
        have B2 := Lib.hid (B3.out.trans ((show Below w3.heap.size w3 wr by rw [← HG.out]; exact B.out).mono B3.out.size))
        clear I2 O B hlt
        go_wp2_with fail
        go_ret2
        exact ⟨_, zs, by rw [HE.out]; rfl, O2.out, fun _ => HLV.out, fun hne => absurd HE.out hne, B2.out⟩
  · have HE := Lib.hid he
    have hne : (validR l wt != 0) = true := bne_iff_ne.2 he
    clear he
    go_wp2_with fail
    go_ret2
    exact ⟨_, [], rfl, Own.nil, fun h => absurd h HE.out, fun _ => rfl, B2.out⟩
end Go.Proofs.Ytpimdcljecipeaa
