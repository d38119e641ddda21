/-
  Stage 4: the reference's group.
-/
import Derived.Test.YtbpgbdnfoofnaaaDoorDGrp
set_option linter.unusedSimpArgs false
set_option linter.unusedVariables false
namespace Go.Proofs.YtbpgbdnfoofnaaaDoor
open Go.RowKit

/-- What group answers. -/
def rgrR (vs : List Int) : List Pul × Nat := match grp vs with
  | some (l, n) => (l, n)
  | none => ([], 0)
theorem rgrR_some {vs : List Int} {l : List Pul} {n : Nat} (h : grp vs = some (l, n)) : rgrR vs = (l, n) := by unfold rgrR; rw [h]
theorem rgrR_none {vs : List Int} (h : grp vs = none) : rgrR vs = ([], 0) := by unfold rgrR; rw [h]
def RgrPost (vs : List Int) (w : World) (e : Ending) (w' : World) : Prop :=
  ∃ v, e = .returned (.tuple #[v, .int .i64 ((rgrR vs).2 : Int)]) ∧ POwn w' w.heap.size v (rgrR vs).1 ∧ Below w.heap.size w w'
theorem RgrPost.mk' {vs : List Int} {w w' : World} {e : Ending} {v : Value} {l : List Pul} {n : Nat} (h : rgrR vs = (l, n)) (h1 : e = .returned (.tuple #[v, .int .i64 (n : Int)])) (h2 : POwn w' w.heap.size v l) (h3 : Below w.heap.size w w') : RgrPost vs w e w' := by
  refine ⟨v, ?_, ?_, h3⟩
  · rw [h]; exact h1
  · rw [h]; exact h2
theorem rdP_yes {t a d : Int} {m : Nat} {v : List Int} (h : (1024 ≤ a ∧ a ≤ 1087) ∧ (0 ≤ d ∧ d ≤ 1023) ∧ t + d ≤ 1000000000) : rdP t (m + 1) (a :: d :: v) = (rdP (t + d) m v).map (((a - 1024) / 2, t + d, a % 2 * 2 - 1) :: ·) := by
  show (if _ then _ else _) = _
  rw [if_pos h]
theorem rdP_no {t a d : Int} {m : Nat} {v : List Int} (h : ¬ ((1024 ≤ a ∧ a ≤ 1087) ∧ (0 ≤ d ∧ d ≤ 1023) ∧ t + d ≤ 1000000000)) : rdP t (m + 1) (a :: d :: v) = none := by
  show (if _ then _ else _) = _
  rw [if_neg h]
theorem grp_cons4 {vs : List Int} (h4 : 4 ≤ vs.length) : grp vs = if mark (vs.getD 0 0) = true ∧ small (vs.getD 1 0) = true ∧ small (vs.getD 2 0) = true ∧ small (vs.getD 3 0) = true then (rdP (vs.getD 1 0 * 1048576 + vs.getD 2 0 * 1024 + vs.getD 3 0) (vs.getD 0 0 - 1536).toNat (vs.drop 4)).map fun l => (l, 4 + 2 * (vs.getD 0 0 - 1536).toNat) else none := by
  match vs, h4 with
  | m :: x :: y :: z :: v, _ => rfl
/-- The four first values. -/
structure Four (w : World) (ad : Addr) (m x y z : Int) : Prop where
  c0 : w.cell? ad = some (.int .i64 m)
  c1 : w.cell? ⟨ad.block, ad.off + 1, none⟩ = some (.int .i64 x)
  c2 : w.cell? ⟨ad.block, ad.off + 2, none⟩ = some (.int .i64 y)
  c3 : w.cell? ⟨ad.block, ad.off + 3, none⟩ = some (.int .i64 z)
theorem RowB.four {w : World} {A : Option Addr} {vs : List Int} (h : RowB .i64 w A vs) (h4 : 4 ≤ vs.length) : ∃ ad, A = some ad ∧ ad.block < w.heap.size ∧ Four w ad (vs.getD 0 0) (vs.getD 1 0) (vs.getD 2 0) (vs.getD 3 0) := by
  obtain ⟨ad, rfl, hb, h0⟩ := h.1 0 (by omega)
  obtain ⟨a1, e1, _, h1⟩ := h.1 1 (by omega)
  obtain ⟨a2, e2, _, h2⟩ := h.1 2 (by omega)
  obtain ⟨a3, e3, _, h3⟩ := h.1 3 (by omega)
  obtain rfl : ad = a1 := by injection e1
  obtain rfl : ad = a2 := by injection e2
  obtain rfl : ad = a3 := by injection e3
  exact ⟨ad, rfl, hb, h0, h1, h2, h3⟩

set_option maxHeartbeats 3200000 in
theorem rgrp_good (vs : List Int) (ad : Addr) (c : Nat) (w : World) (L n : Nat) (x y z t0 : Int) (h : RowB .i64 w (some ad) vs) (hL : L = vs.length) (hv : ∀ v ∈ vs, -1 ≤ v ∧ v ≤ 2047) (n1 : 1 ≤ n) (n8 : n ≤ 8) (nL : 4 + 2 * n ≤ L)
    (hk : mark (1536 + (n : Int)) = true) (hx : small x = true) (hy : small y = true) (hz : small z = true) (hc0 : w.cell? ad = some (.int .i64 (1536 + (n : Int)))) (c1 : w.cell? ⟨ad.block, ad.off + 1, none⟩ = some (.int .i64 x))
    (c2 : w.cell? ⟨ad.block, ad.off + 2, none⟩ = some (.int .i64 y)) (c3 : w.cell? ⟨ad.block, ad.off + 3, none⟩ = some (.int .i64 z)) (ht0 : t0 = x * 1048576 + y * 1024 + z) (gv : grp vs = (rdP t0 n (vs.drop 4)).map fun l => (l, 4 + 2 * n)) (hl : L ≤ 9223372036854775807) :
    Calls Tryd.prog 44 #[.slice (some ad) L c] w (RgrPost vs w) := by
  obtain ⟨i0, hi, hz0, hz1, hz2⟩ := info_parts infoPul
  have dx := of_decide_eq_true hx
  have dy := of_decide_eq_true hy
  have dz := of_decide_eq_true hz
  have H := Lib.hid h
  have HL := Lib.hid hL
  have HV := Lib.hid hv
  have HK := Lib.hid hk
  have HX := Lib.hid hx
  have HY := Lib.hid hy
  have HZ := Lib.hid hz
  have GV := Lib.hid gv
  have bt : 0 ≤ t0 ∧ t0 ≤ 1073741823 := by omega
  have hwx : IntKind.i64.wrap (x * 1048576) = x * 1048576 := IntWalk.i64_in _ (by omega)
  have hwy : IntKind.i64.wrap (y * 1024) = y * 1024 := IntWalk.i64_in _ (by omega)
  have hwxy : IntKind.i64.wrap (x * 1048576 + y * 1024) = x * 1048576 + y * 1024 := IntWalk.i64_in _ (by omega)
  have hwt : IntKind.i64.wrap (x * 1048576 + y * 1024 + z) = t0 := by rw [← ht0]; exact IntWalk.i64_in _ (by omega)
  have hLz : ((L : Int) == 0) = false := by rw [beq_eq_false_iff_ne]; omega
  have hw1 : IntKind.i64.wrap (1536 + (n : Int) - 1536) = (n : Int) := by rw [show 1536 + (n : Int) - 1536 = (n : Int) by omega]; exact IntWalk.i64_in _ (by omega)
  have hw2 : 1536 + (n : Int) - 1536 = (n : Int) := by omega
  have hszi : ¬ (L : Int) < 4 + 2 * (n : Int) := by omega
  have hi1 : (1 : Int) < (L : Int) := by omega
  have hi2 : (2 : Int) < (L : Int) := by omega
  have hi3 : (3 : Int) < (L : Int) := by omega
  clear h hL hv hk hx hy hz gv ht0
  go_enter Tryd.func44, Tryd.ntmps44
  go_wp2_with fail
  refine (rmark_any _ _).mono ?_
  rintro e w' ⟨rfl, rfl⟩
  rw [HK.out]
  go_wp2_with fail
  refine (rsmall_any _ _).mono ?_
  rintro e w' ⟨rfl, rfl⟩
  rw [HX.out]
  go_wp2_with fail
  refine (rsmall_any _ _).mono ?_
  rintro e w' ⟨rfl, rfl⟩
  rw [HY.out]
  go_wp2_with fail
  refine (rsmall_any _ _).mono ?_
  rintro e w' ⟨rfl, rfl⟩
  rw [HZ.out]
  go_upto_region 6 with fail
  go_quiet (fail)
  clear dx dy dz hwx hwy hwxy hwt hc0 c1 c2 c3 hi1 hi2 hi3
  go_upto_region 9 with fail
  go_loopw [5, 6, 7] (fun tv gv iv wr => ∃ (k : Nat) (gk : List Pul) (T : Int), k ≤ n ∧ iv = .int .i64 (k : Int) ∧ tv = .int .i64 T ∧ (0 ≤ T ∧ T ≤ 1073741823) ∧ Hid (gk.length = k ∧ POwn wr w.heap.size gv gk ∧ Below w.heap.size w wr) ∧
    Hid (grp vs = (rdP T (n - k) (vs.drop (4 + 2 * k))).map fun l => (gk ++ l, 4 + 2 * n))) (fun _ _ iv _ => n - (intOf iv).toNat)
  case atStart => exact ⟨0, [], t0, by omega, rfl, rfl, bt, Lib.hid ⟨rfl, POwn.nil, bdn (Below.refl _ _)⟩, GV⟩
  case round =>
    clear GV bt
    obtain ⟨k, gk, T, hk, rfl, rfl, hT, G, V⟩ := hrel
    by_cases hlt : k < n
    · have hJL : 5 + 2 * k < vs.length := by rw [← HL.out]; omega
      have hr := H.out.1.under G.out.2.2
      obtain ⟨ad', e', _, hc0⟩ := hr (4 + 2 * k) (by omega)
      obtain rfl : ad = ad' := by injection e'
      obtain ⟨ad', e', hbd, hc1⟩ := hr (5 + 2 * k) hJL
      obtain rfl : ad = ad' := by injection e'
      have hd := dropZ (l := vs) (k := 4 + 2 * k) (by omega)
      rw [show 4 + 2 * k + 1 = 5 + 2 * k by omega, dropZ (l := vs) (k := 5 + 2 * k) hJL] at hd
      have bx := HV.out _ (getD_mem (show 4 + 2 * k < vs.length by omega))
      have by' := HV.out _ (getD_mem hJL)
      obtain ⟨a, ha⟩ : ∃ x, x = vs.getD (4 + 2 * k) 0 := ⟨_, rfl⟩
      obtain ⟨d, hdd⟩ : ∃ x, x = vs.getD (5 + 2 * k) 0 := ⟨_, rfl⟩
      rw [← ha] at hc0 hd bx
      rw [← hdd] at hc1 hd by'
      have hV := V.out
      rw [hd, show n - k = n - (k + 1) + 1 by omega] at hV
      have HV2 := Lib.hid hV
      have un : ∀ j, 0 < j → ad.add j = ⟨ad.block, ad.off + j, none⟩ := fun j hj => by unfold Addr.add; rw [if_neg (by omega)]
      have hf0 := hc0
      have hf1 := hc1
      rw [un _ (by omega)] at hc0 hc1
      have LG := Lib.hid G.out.1
      have e1 : (4 + 2 * (k : Int)).toNat = 4 + 2 * k := by omega
      have e2 : (5 + 2 * (k : Int)).toNat = 5 + 2 * k := by omega
      have e3 : 0 ≤ 4 + 2 * (k : Int) ∧ 4 + 2 * (k : Int) < (L : Int) := by omega
      have e4 : 0 ≤ 5 + 2 * (k : Int) ∧ 5 + 2 * (k : Int) < (L : Int) := by omega
      have e5 : IntKind.i64.wrap (2 * (k : Int)) = 2 * (k : Int) := IntWalk.i64_in _ (by omega)
      have e6 : IntKind.i64.wrap (4 + 2 * (k : Int)) = 4 + 2 * (k : Int) := IntWalk.i64_in _ (by omega)
      have e7 : IntKind.i64.wrap (5 + 2 * (k : Int)) = 5 + 2 * (k : Int) := IntWalk.i64_in _ (by omega)
      have e8 : IntKind.i64.wrap (T + d) = T + d := IntWalk.i64_in _ (by omega)
      clear hV ha hdd hd hr e' hJL V hbd un
      go_upto_region 11 with fail
      go_quiet (fail)
      clear hc0 hc1 hf0 hf1 e1 e2 e3 e4 e5 e6 e7
      have bad := fun g => (rgrR_none (vs := vs) (by rw [HV2.out, rdP_no g]; rfl) : rgrR vs = ([], 0))
      have BAD := Lib.hid bad
      clear bad
      by_cases ca : a < 1024
      · have HP := Lib.hid (BAD.out (fun g => by omega))
        go_wp2_with fail
        exact bodyPost_ret (v := .tuple #[.slice none 0 0, .int .i64 0]) (by simp [results, Tryd.results44, go_sem]) rfl (RgrPost.mk' HP.out rfl POwn.nil (bdn G.out.2.2))
      · by_cases cb : 1087 < a
        · have HP := Lib.hid (BAD.out (fun g => by omega))
          go_wp2_with fail
          exact bodyPost_ret (v := .tuple #[.slice none 0 0, .int .i64 0]) (by simp [results, Tryd.results44, go_sem]) rfl (RgrPost.mk' HP.out rfl POwn.nil (bdn G.out.2.2))
        · cases hs : small d with
          | false =>
            have HP := Lib.hid (BAD.out (fun g => by have := of_decide_eq_false hs; omega))
            have HS := Lib.hid hs
            clear hs
            go_wp2_with fail
            refine (rsmall_any _ _).mono ?_
            rintro e w' ⟨rfl, rfl⟩
            rw [HS.out]
            go_wp2_with fail
            exact bodyPost_ret (v := .tuple #[.slice none 0 0, .int .i64 0]) (by simp [results, Tryd.results44, go_sem]) rfl (RgrPost.mk' HP.out rfl POwn.nil (bdn G.out.2.2))
          | true =>
            have ds := of_decide_eq_true hs
            have HS := Lib.hid hs
            clear hs
            by_cases cc : 1000000000 < T + d
            · have HP := Lib.hid (BAD.out (fun g => by omega))
              go_wp2_with fail
              refine (rsmall_any _ _).mono ?_
              rintro e w' ⟨rfl, rfl⟩
              rw [HS.out]
              go_wp2_with fail
              exact bodyPost_ret (v := .tuple #[.slice none 0 0, .int .i64 0]) (by simp [results, Tryd.results44, go_sem]) rfl (RgrPost.mk' HP.out rfl POwn.nil (bdn G.out.2.2))
            · have yes := rdP_yes (t := T) (a := a) (d := d) (m := n - (k + 1)) (v := vs.drop (5 + 2 * k + 1)) ⟨by omega, ds, by omega⟩
              have YES := Lib.hid yes
              clear yes
              obtain ⟨q, hq⟩ : ∃ q, q = (a - 1024) / 2 := ⟨_, rfl⟩
              obtain ⟨r, hr⟩ : ∃ r, r = a % 2 * 2 - 1 := ⟨_, rfl⟩
              have hr0 : IntKind.i64.wrap (a % 2 * 2) = a % 2 * 2 := IntWalk.i64_in _ (by omega)
              rw [← hq, ← hr] at YES
              have hq' := hq.symm
              have hr' := hr.symm
              clear hq hr
              go_wp2_with fail
              refine (rsmall_any _ _).mono ?_
              rintro e w' ⟨rfl, rfl⟩
              rw [HS.out]
              go_wp2_with (first | (at_builtin; refine wpList_append_lies _ rfl (.tmp 99) (.tmp 109) 25 rfl w.heap.size 28 i0 (.agg #[.int .i64 0, .int .i64 0, .int .i64 0]) 3 24 Tryd.underlying25 hi hz0 hz1 hz2 rfl (by decide) _ gk.length ((flatP gk).map (Value.int .i64)) rfl ((G.out.2.1.drewN nq).alloc _) ⟨wr.heap.size, 0, none⟩ 1 1 ((flatP [(q, T + d, r)]).map (Value.int .i64)) rfl rfl (news_int (W := wr.drewN nq) (ys := flatP [(q, T + d, r)])) (one_cells (ys := flatP [(q, T + d, r)])) (by decide) (by unfold maxLen; have := LG.out; omega) (by have := LG.out; omega) (by have := G.out.2.2.size; simp only [World.size_alloc]; exact Nat.le_trans this (Nat.le_succ _)) _ rfl ?_; intro g cap w2 hown hgr hgb hlt2))
              have AP := POwn.app (l := gk) (m := [(q, T + d, r)]) hown rfl rfl
              have BN := Lib.hid (((bdn (n := nq) G.out.2.2).alloc G.out.2.2.size (.cells #[.int .i64 q, .int .i64 (T + d), .int .i64 r] 28)).grown hgr (by have := G.out.2.2.size; simp only [World.size_alloc]; exact Nat.le_trans this (Nat.le_succ _)) (fun j hj => (G.out.2.1.block hj).1))
              clear hown hgr hgb hlt2 hq' hr' hr0
              go_roundw
              case rel =>
                refine ⟨k + 1, gk ++ [(q, T + d, r)], T + d, by omega, by go_num, rfl, by omega, Lib.hid ⟨by rw [List.length_append, LG.out]; rfl, AP, BN.out⟩, Lib.hid ?_⟩
                rw [HV2.out, YES.out, Option.map_map, show 5 + 2 * k + 1 = 4 + 2 * (k + 1) by omega]
                congr 1
                funext u
                show (gk ++ (q, T + d, r) :: u, _) = (gk ++ [(q, T + d, r)] ++ u, _)
                rw [List.append_assoc]; rfl
              case measure => simp [intOf]; omega
    · obtain rfl : k = n := by omega
      have hV := V.out
      have hP : rgrR vs = (gk, 4 + 2 * k) := rgrR_some (by
        rw [hV, Nat.sub_self]
        show some (gk ++ [], 4 + 2 * k) = _
        rw [List.append_nil])
      have HP := Lib.hid hP
      clear hV hP V hT
      go_wp2_with fail
      exact bodyPost_ret (v := .tuple #[u6, .int .i64 (4 + 2 * (k : Int))]) (by simp [results, Tryd.results44, go_sem]) rfl (RgrPost.mk' HP.out (by simp) G.out.2.1 G.out.2.2)

set_option maxHeartbeats 1600000 in
theorem rgrp_any (vs : List Int) (A : Option Addr) (c : Nat) (w : World) (h : RowB .i64 w A vs) (hne : 0 < vs.length) (hv : ∀ v ∈ vs, -1 ≤ v ∧ v ≤ 2047) :
    Calls Tryd.prog 44 #[.slice A vs.length c] w (RgrPost vs w) := by
  obtain ⟨i0, hi, hz0, hz1, hz2⟩ := info_parts infoPul
  have hl : vs.length ≤ 9223372036854775807 := h.2
  have H := Lib.hid h
  have HV := Lib.hid hv
  obtain ⟨ad, rfl, hab, hc0⟩ := h.1 0 hne
  have hz : ad.add 0 = ad := by unfold Addr.add; rw [if_pos rfl]
  rw [hz] at hc0
  have hm0 := hv _ (getD_mem hne)
  obtain ⟨m, hm⟩ : ∃ m, m = vs.getD 0 0 := ⟨_, rfl⟩
  rw [← hm] at hc0 hm0
  obtain ⟨L, hL⟩ : ∃ n, n = vs.length := ⟨_, rfl⟩
  have HL := Lib.hid hL
  have HM := Lib.hid hm
  rw [← hL] at hne hl ⊢
  have hLz : ((L : Int) == 0) = false := by rw [beq_eq_false_iff_ne]; omega
  clear h hv hz hL hm hab
  cases hmk : mark m with
  | false =>
    have HP := Lib.hid (rgrR_none (grp_nomark (vs := vs) (by rw [← HM.out]; exact hmk)))
    have HK := Lib.hid hmk
    clear hmk
    go_enter Tryd.func44, Tryd.ntmps44
    go_wp2_with fail
    refine (rmark_any _ _).mono ?_
    rintro e w' ⟨rfl, rfl⟩
    rw [HK.out]
    go_wp2_with fail
    exact bodyPost_ret (v := .tuple #[.slice none 0 0, .int .i64 0]) (by simp [results, Tryd.results44, go_sem]) rfl (RgrPost.mk' HP.out rfl POwn.nil (Below.refl _ _))
  | true =>
    have hmb := of_decide_eq_true hmk
    obtain ⟨n, hn⟩ : ∃ n : Nat, m = 1536 + (n : Int) := ⟨(m - 1536).toNat, by omega⟩
    have n1 : 1 ≤ n := by omega
    have n8 : n ≤ 8 := by omega
    have en : (vs.getD 0 0 - 1536).toNat = n := by rw [← HM.out]; omega
    have EN := Lib.hid en
    have HK := Lib.hid hmk
    subst hn
    have hw1 : IntKind.i64.wrap (1536 + (n : Int) - 1536) = (n : Int) := by rw [show 1536 + (n : Int) - 1536 = (n : Int) by omega]; exact IntWalk.i64_in _ (by omega)
    have hw2 : 1536 + (n : Int) - 1536 = (n : Int) := by omega
    clear hmk en hm0 hmb
    by_cases hsz : L < 4 + 2 * n
    · have HP := Lib.hid (rgrR_none (grp_short (vs := vs) (by rw [EN.out, ← HL.out]; exact hsz)))
      have hszi : (L : Int) < 4 + 2 * (n : Int) := by omega
      go_enter Tryd.func44, Tryd.ntmps44
      go_wp2_with fail
      refine (rmark_any _ _).mono ?_
      rintro e w' ⟨rfl, rfl⟩
      rw [HK.out]
      go_wp2_with fail
      exact bodyPost_ret (v := .tuple #[.slice none 0 0, .int .i64 0]) (by simp [results, Tryd.results44, go_sem]) rfl (RgrPost.mk' HP.out rfl POwn.nil (Below.refl _ _))
    · have nL : 4 + 2 * n ≤ L := Nat.le_of_not_lt hsz
      have h4 : 4 ≤ vs.length := by rw [← HL.out]; omega
      have gc := grp_cons4 h4
      obtain ⟨ad', e', hab, F⟩ := H.out.four h4
      obtain rfl : ad = ad' := by injection e'
      have bx := HV.out _ (getD_mem (show 1 < vs.length by omega))
      have by' := HV.out _ (getD_mem (show 2 < vs.length by omega))
      have bz := HV.out _ (getD_mem (show 3 < vs.length by omega))
      rw [← HM.out] at F gc
      obtain ⟨x, hx⟩ : ∃ x, x = vs.getD 1 0 := ⟨_, rfl⟩
      obtain ⟨y, hy⟩ : ∃ x, x = vs.getD 2 0 := ⟨_, rfl⟩
      obtain ⟨z, hz⟩ : ∃ x, x = vs.getD 3 0 := ⟨_, rfl⟩
      rw [← hx, ← hy, ← hz] at F gc
      rw [← hx] at bx
      rw [← hy] at by'
      rw [← hz] at bz
      rw [show (1536 + (n : Int) - 1536).toNat = n by omega] at gc
      obtain ⟨_, c1, c2, c3⟩ := F
      have GC := Lib.hid gc
      have hszi : ¬ (L : Int) < 4 + 2 * (n : Int) := by omega
      have hi1 : (1 : Int) < (L : Int) := by omega
      have hi2 : (2 : Int) < (L : Int) := by omega
      have hi3 : (3 : Int) < (L : Int) := by omega
      clear e' hx hy hz gc h4 hsz
      have bad : ¬ (small x = true ∧ small y = true ∧ small z = true) → rgrR vs = ([], 0) := fun g => rgrR_none (by rw [GC.out, if_neg (fun k => g k.2)])
      have BAD := Lib.hid bad
      clear bad
      cases hsx : small x with
      | false =>
        have HP := Lib.hid (BAD.out (fun k => by rw [hsx] at k; exact absurd k.1 (by decide)))
        have HX := Lib.hid hsx
        clear hsx
        go_enter Tryd.func44, Tryd.ntmps44
        go_wp2_with fail
        refine (rmark_any _ _).mono ?_
        rintro e w' ⟨rfl, rfl⟩
        rw [HK.out]
        go_wp2_with fail
        refine (rsmall_any _ _).mono ?_
        rintro e w' ⟨rfl, rfl⟩
        rw [HX.out]
        go_wp2_with fail
        exact bodyPost_ret (v := .tuple #[.slice none 0 0, .int .i64 0]) (by simp [results, Tryd.results44, go_sem]) rfl (RgrPost.mk' HP.out rfl POwn.nil (Below.refl _ _))
      | true =>
        have HX := Lib.hid hsx
        have dx := of_decide_eq_true hsx
        clear hsx bx
        cases hsy : small y with
        | false =>
          have HP := Lib.hid (BAD.out (fun k => by rw [hsy] at k; exact absurd k.2.1 (by decide)))
          have HY := Lib.hid hsy
          clear hsy
          go_enter Tryd.func44, Tryd.ntmps44
          go_wp2_with fail
          refine (rmark_any _ _).mono ?_
          rintro e w' ⟨rfl, rfl⟩
          rw [HK.out]
          go_wp2_with fail
          refine (rsmall_any _ _).mono ?_
          rintro e w' ⟨rfl, rfl⟩
          rw [HX.out]
          go_wp2_with fail
          refine (rsmall_any _ _).mono ?_
          rintro e w' ⟨rfl, rfl⟩
          rw [HY.out]
          go_wp2_with fail
          exact bodyPost_ret (v := .tuple #[.slice none 0 0, .int .i64 0]) (by simp [results, Tryd.results44, go_sem]) rfl (RgrPost.mk' HP.out rfl POwn.nil (Below.refl _ _))
        | true =>
          have HY := Lib.hid hsy
          have dy := of_decide_eq_true hsy
          clear hsy by'
          cases hsz : small z with
          | false =>
            have HP := Lib.hid (BAD.out (fun k => by rw [hsz] at k; exact absurd k.2.2 (by decide)))
            have HZ := Lib.hid hsz
            clear hsz
            go_enter Tryd.func44, Tryd.ntmps44
            go_wp2_with fail
            refine (rmark_any _ _).mono ?_
            rintro e w' ⟨rfl, rfl⟩
            rw [HK.out]
            go_wp2_with fail
            refine (rsmall_any _ _).mono ?_
            rintro e w' ⟨rfl, rfl⟩
            rw [HX.out]
            go_wp2_with fail
            refine (rsmall_any _ _).mono ?_
            rintro e w' ⟨rfl, rfl⟩
            rw [HY.out]
            go_wp2_with fail
            refine (rsmall_any _ _).mono ?_
            rintro e w' ⟨rfl, rfl⟩
            rw [HZ.out]
            go_wp2_with fail
            exact bodyPost_ret (v := .tuple #[.slice none 0 0, .int .i64 0]) (by simp [results, Tryd.results44, go_sem]) rfl (RgrPost.mk' HP.out rfl POwn.nil (Below.refl _ _))
          | true =>
            have HZ := Lib.hid hsz
            have dz := of_decide_eq_true hsz
            clear hsz bz
            have gv : grp vs = (rdP (x * 1048576 + y * 1024 + z) n (vs.drop 4)).map fun l => (l, 4 + 2 * n) := by rw [GC.out, if_pos ⟨HK.out, HX.out, HY.out, HZ.out⟩]
            obtain ⟨t0, ht0⟩ : ∃ t, t = x * 1048576 + y * 1024 + z := ⟨_, rfl⟩
            have bt : 0 ≤ t0 ∧ t0 ≤ 1073741823 := by omega
            rw [← ht0] at gv
            have GV := Lib.hid gv
            have HT0 := Lib.hid ht0
            have hwx : IntKind.i64.wrap (x * 1048576) = x * 1048576 := IntWalk.i64_in _ (by omega)
            have hwy : IntKind.i64.wrap (y * 1024) = y * 1024 := IntWalk.i64_in _ (by omega)
            have hwxy : IntKind.i64.wrap (x * 1048576 + y * 1024) = x * 1048576 + y * 1024 := IntWalk.i64_in _ (by omega)
            have hwt : IntKind.i64.wrap (x * 1048576 + y * 1024 + z) = t0 := by rw [← ht0]; exact IntWalk.i64_in _ (by omega)
            clear gv BAD GC ht0
            exact rgrp_good vs ad c w L n x y z t0 H.out HL.out HV.out n1 n8 nL HK.out HX.out HY.out HZ.out hc0 c1 c2 c3 HT0.out GV.out hl
end Go.Proofs.YtbpgbdnfoofnaaaDoor
