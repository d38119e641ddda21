/-
  Stage 4: the walk of the program's readGroup.
-/
import Derived.Test.YtbpgbdnfoofnaaaDoorDGrp
set_option linter.unusedSimpArgs false
set_option linter.unusedVariables false
namespace Go.Proofs.YtbpgbdnfoofnaaaDoor
open Go.RowKit

/-- What readGroup answers. -/
def grpR (vs : List Int) : List Pul × Nat × Bool := match grp vs with
  | some (l, n) => (l, n, true)
  | none => ([], 0, false)
theorem grpR_some {vs : List Int} {l : List Pul} {n : Nat} (h : grp vs = some (l, n)) : grpR vs = (l, n, true) := by unfold grpR; rw [h]
theorem grpR_none {vs : List Int} (h : grp vs = none) : grpR vs = ([], 0, false) := by unfold grpR; rw [h]
def GrpPost (vs : List Int) (w : World) (e : Ending) (w' : World) : Prop :=
  ∃ v, e = .returned (.tuple #[v, .int .i64 ((grpR vs).2.1 : Int), .bool (grpR vs).2.2]) ∧ POwn w' w.heap.size v (grpR vs).1 ∧ Below w.heap.size w w'
theorem GrpPost.mk' {vs : List Int} {w w' : World} {e : Ending} {v : Value} {l : List Pul} {n : Nat} {b : Bool} (h : grpR vs = (l, n, b)) (h1 : e = .returned (.tuple #[v, .int .i64 (n : Int), .bool b])) (h2 : POwn w' w.heap.size v l) (h3 : Below w.heap.size w w') : GrpPost vs w e w' := by
  refine ⟨v, ?_, ?_, h3⟩
  · rw [h]; exact h1
  · rw [h]; exact h2
/-- The two values that a round loads. -/
structure TwoI (w : World) (ad : Addr) (i : Nat) (x y : Int) : Prop where
  c0 : w.cell? (ad.add i) = some (.int .i64 x)
  c1 : w.cell? ⟨ad.block, ad.off + (i + 1), none⟩ = some (.int .i64 y)
  lt : ad.block < w.heap.size
theorem TwoI.keep {w w' : World} {ad : Addr} {i : Nat} {x y : Int} (h : TwoI w ad i x y) (b : Below w.heap.size w w') : w'.cell? (ad.add i) = some (.int .i64 x) ∧ w'.cell? ⟨ad.block, ad.off + (i + 1), none⟩ = some (.int .i64 y) :=
  ⟨(b.cell (by rw [add_block]; exact h.lt)).trans h.c0, (b.cell (p := ⟨ad.block, ad.off + (i + 1), none⟩) h.lt).trans h.c1⟩
theorem TwoI.dr {w : World} {ad : Addr} {i : Nat} {x y : Int} (h : TwoI w ad i x y) : TwoI w.drew ad i x y := ⟨h.c0, h.c1, h.lt⟩
theorem TwoI.drN {w : World} {ad : Addr} {i : Nat} {x y : Int} (h : TwoI w ad i x y) (n : Nat) : TwoI (w.drewN n) ad i x y := ⟨h.c0, h.c1, h.lt⟩
theorem TwoI.keepB {w w' : World} {ad : Addr} {i b : Nat} {x y : Int} {u v z : Value} (h : TwoI w ad i x y) (k : Below w.heap.size w w') (hb : ad.block < b) :
    (((w'.setCell ⟨b, 0, none⟩ u).setCell ⟨b, 1, none⟩ v).setCell ⟨b, 2, none⟩ z).cell? (ad.add i) = some (.int .i64 x) ∧ (((w'.setCell ⟨b, 0, none⟩ u).setCell ⟨b, 1, none⟩ v).setCell ⟨b, 2, none⟩ z).cell? ⟨ad.block, ad.off + (i + 1), none⟩ = some (.int .i64 y) := by
  have k' := (((k.mono (show ad.block + 1 ≤ w.heap.size from h.lt)).setCell (p := ⟨b, 0, none⟩) hb u).setCell (p := ⟨b, 1, none⟩) hb v).setCell (p := ⟨b, 2, none⟩) hb z
  exact ⟨(k'.cell (by rw [add_block]; exact Nat.lt_succ_self _)).trans h.c0, (k'.cell (p := ⟨ad.block, ad.off + (i + 1), none⟩) (Nat.lt_succ_self _)).trans h.c1⟩
theorem getD_take1 (vs : List Int) : (vs.drop 1).take 3 = (vs.take 4).drop 1 := by
  rw [List.drop_take]
theorem rpulse_at {v d t : Int} {u : Pul × Bool} (h : rpR v d t = u) (w : World) (h1 : -1 ≤ v ∧ v ≤ 2047) (h2 : -1 ≤ d ∧ d ≤ 2047) (h3 : 0 ≤ t ∧ t ≤ 1073741823) :
    Calls Tryd.prog 41 #[.int .i64 v, .int .i64 d, .int .i64 t] w fun e w' => e = .returned (RP u) ∧ Below w.heap.size w w' := by rw [← h]; exact rpulse_any v d t w h1 h2 h3
theorem rbase_at {vs : List Int} {u : Int × Bool} (h : bsR vs = u) (A : Option Addr) (c n : Nat) (hn : n = vs.length) (w : World) (R : RowB .i64 w A vs) (h3 : vs.length ≤ 3) :
    Calls Tryd.prog 40 #[.slice A n c] w fun e w' => e = .returned (RB u) ∧ w = w' := by subst hn; rw [← h]; exact rbase_any vs A c w R h3

set_option maxHeartbeats 1600000 in
theorem rgroup_any (vs : List Int) (A : Option Addr) (c : Nat) (w : World) (h : RowB .i64 w A vs) (hne : 0 < vs.length) (hc : vs.length ≤ c) (hcm : c ≤ maxLen) (hv : ∀ v ∈ vs, -1 ≤ v ∧ v ≤ 2047) :
    Calls Tryd.prog 31 #[.slice A vs.length c] w (GrpPost vs w) := by
  obtain ⟨i0, hi, hz0, hz1, hz2⟩ := info_parts infoPul
  have hcm' : c ≤ 9223372036854775807 := hcm
  have H := Lib.hid h
  have HV := Lib.hid hv
  obtain ⟨ad, rfl, hab, hc0⟩ := h.1 0 hne
  have hz : ad.add 0 = ad := by unfold Addr.add; rw [if_pos rfl]
  rw [hz] at hc0
  have hm0 := hv _ (getD_mem hne)
  obtain ⟨m, hm⟩ : ∃ m, m = vs.getD 0 0 := ⟨_, rfl⟩
  rw [← hm] at hc0 hm0
  obtain ⟨L, hL⟩ : ∃ n, n = vs.length := ⟨_, rfl⟩
  have HL := Lib.hid hL
  have HM := Lib.hid hm
  have HAB := Lib.hid hab
  rw [← hL] at hne hc ⊢
  clear h hv hz hcm hL hm hab
  cases hmk : mark m with
  | false =>
    have HP := Lib.hid (grpR_none (grp_nomark (vs := vs) (by rw [← HM.out]; exact hmk)))
    have HK := Lib.hid hmk
    clear hmk
    go_enter Tryd.func31, Tryd.ntmps31
    go_wp2_with fail
    refine (isMark_any _ _).mono ?_
    rintro e w' ⟨rfl, rfl⟩
    rw [HK.out]
    go_wp2_with fail
    exact bodyPost_ret (v := .tuple #[.slice none 0 0, .int .i64 0, .bool false]) (by simp [results, Tryd.results31, go_sem]) rfl (GrpPost.mk' HP.out rfl POwn.nil (Below.refl _ _))
  | true =>
    have hmb := of_decide_eq_true hmk
    obtain ⟨n, hn⟩ : ∃ n : Nat, m = 1536 + (n : Int) := ⟨(m - 1536).toNat, by omega⟩
    have n1 : 1 ≤ n := by omega
    have n8 : n ≤ 8 := by omega
    have en : (vs.getD 0 0 - 1536).toNat = n := by rw [← HM.out]; omega
    have EN := Lib.hid en
    have HK := Lib.hid hmk
    subst hn
    have hw1 : IntKind.i64.wrap (1536 + (n : Int) - 1536) = (n : Int) := by rw [show 1536 + (n : Int) - 1536 = (n : Int) by omega]; exact IntWalk.i64_in _ (by omega)
    have hw2 : 1536 + (n : Int) - 1536 = (n : Int) := by omega
    clear hmk en
    by_cases hsz : L < 4 + 2 * n
    · have HP := Lib.hid (grpR_none (grp_short (vs := vs) (by rw [EN.out, ← HL.out]; exact hsz)))
      have hszi : (L : Int) < 4 + 2 * (n : Int) := by omega
      clear hm0 hmb
      go_enter Tryd.func31, Tryd.ntmps31
      go_wp2_with fail
      refine (isMark_any _ _).mono ?_
      rintro e w' ⟨rfl, rfl⟩
      rw [HK.out]
      go_wp2_with fail
      exact bodyPost_ret (v := .tuple #[.slice none 0 0, .int .i64 0, .bool false]) (by simp [results, Tryd.results31, go_sem]) rfl (GrpPost.mk' HP.out rfl POwn.nil (Below.refl _ _))
    · go_enter Tryd.func31, Tryd.ntmps31
      go_wp2_with fail
      refine (isMark_any _ _).mono ?_
      rintro e w' ⟨rfl, rfl⟩
      rw [HK.out]
      go_wp2_with fail
      have nL : 4 + 2 * n ≤ L := Nat.le_of_not_lt hsz
      have lb : ((vs.drop 1).take 3).length = 3 := by rw [List.length_take, List.length_drop, ← HL.out]; omega
      have rb : RowB .i64 w (some ⟨ad.block, ad.off + 1, none⟩) ((vs.drop 1).take 3) := ⟨(H.out.1.dropR 1).take 3, by rw [lb]; decide⟩
      have gb := grp_base (vs := vs) (by rw [← HM.out]; exact HK.out) (by rw [← HL.out]; omega)
      rw [EN.out] at gb
      obtain ⟨⟨t0, ok0⟩, hu⟩ : ∃ u, bsR ((vs.drop 1).take 3) = u := ⟨_, rfl⟩
      refine (rbase_at hu _ (c - 1) 3 lb.symm w rb (by rw [lb]; exact Nat.le_refl _)).mono ?_
      rintro e w' ⟨rfl, rfl⟩
      have hst : (ok0 = true ∧ (0 ≤ t0 ∧ t0 ≤ 1073741823) ∧ grp vs = (rdP t0 n (vs.drop 4)).map fun l => (l, 4 + 2 * n)) ∨ (ok0 = false ∧ grp vs = none) := by
        unfold bsR at hu
        cases hb : bsF 0 ((vs.drop 1).take 3) with
        | none =>
          rw [hb] at hu gb
          injection hu with h1 h2
          exact Or.inr ⟨h2.symm, gb⟩
        | some t =>
          rw [hb] at hu gb
          injection hu with h1 h2
          have := bsF_bd 3 hb (by decide) (by rw [lb]; exact Nat.le_refl _) (by decide) (by decide)
          subst h1
          exact Or.inl ⟨h2.symm, by omega, gb⟩
      have HST := Lib.hid hst
      clear hst hu gb rb lb hc0 hm0 hmb
      go_upto_region 8 with fail
      go_loopw [2, 4, 5, 6] (fun gv okv tv iv wr => ∃ (k : Nat) (gk : List Pul) (b : Bool) (T : Int) (J : Nat), k ≤ n ∧ Hid (J = 4 + 2 * k) ∧ 4 ≤ J ∧ J ≤ 4 + 2 * n ∧ iv = .int .i64 (J : Int) ∧ okv = .bool b ∧ tv = .int .i64 T ∧ Hid (gk.length = k ∧ POwn wr w.heap.size gv gk ∧ Below w.heap.size w wr) ∧
        Hid ((b = true ∧ (0 ≤ T ∧ T ≤ 1073741823) ∧ grp vs = (rdP T (n - k) (vs.drop J)).map fun l => (gk ++ l, 4 + 2 * n)) ∨ (b = false ∧ grp vs = none))) (fun _ _ _ iv _ => 4 + 2 * n - (intOf iv).toNat)
      case atStart => exact ⟨0, [], ok0, t0, 4, by omega, Lib.hid rfl, by omega, by omega, rfl, rfl, rfl, Lib.hid ⟨rfl, POwn.nil, Below.refl _ _⟩, HST⟩
      case round =>
        clear HST
        obtain ⟨k, gk, b, T, J, hk, hJ, hJ4, hJn, rfl, rfl, rfl, G, V⟩ := hrel
        rcases V.out with ⟨rfl, hT, hV⟩ | ⟨rfl, hV⟩
        · by_cases hlt : k < n
          · have hJ2 : J + 1 < 4 + 2 * n := by have := hJ.out; omega
            have hJi : (J : Int) < 4 + 2 * (n : Int) := by omega
            have hJL : J + 1 < vs.length := by rw [← HL.out]; omega
            have hr := H.out.1.under G.out.2.2
            obtain ⟨ad', e', _, hc0⟩ := hr J (by omega)
            obtain rfl : ad = ad' := by injection e'
            obtain ⟨ad', e', hbd, hc1⟩ := hr (J + 1) hJL
            obtain rfl : ad = ad' := by injection e'
            have hd := dropZ (l := vs) (k := J) (by omega)
            rw [dropZ (l := vs) (k := J + 1) hJL] at hd
            have bx := HV.out _ (getD_mem (show J < vs.length by omega))
            have by' := HV.out _ (getD_mem hJL)
            obtain ⟨x, hx⟩ : ∃ x, x = vs.getD J 0 := ⟨_, rfl⟩
            obtain ⟨y, hy⟩ : ∃ x, x = vs.getD (J + 1) 0 := ⟨_, rfl⟩
            rw [← hx] at hc0 hd bx
            rw [← hy] at hc1 hd by'
            obtain ⟨⟨p, bb⟩, hu⟩ : ∃ u, rpR x y T = u := ⟨_, rfl⟩
            have st := rp_step (m := n - (k + 1)) (v := vs.drop (J + 1 + 1)) hu hT.1
            rw [hd, show n - k = n - (k + 1) + 1 by omega] at hV
            have HV2 := Lib.hid hV
            have HS := Lib.hid st
            have HU := Lib.hid hu
            have hc2 : wr.cell? ⟨ad.block, ad.off + (J + 1), none⟩ = some (.int .i64 y) := by
              have := hc1
              unfold Addr.add at this
              rw [if_neg (by omega)] at this
              exact this
            have hlb : ad.block < wr.heap.size := Nat.lt_of_lt_of_le hbd G.out.2.2.size
            have TT := Lib.hid (TwoI.mk hc0 hc2 hlb)
            have hT' := hT
            have i1 : (J : Int) + 1 < (L : Int) := by omega
            have i0' : (J : Int) < (L : Int) := by omega
            have w1' : IntKind.i64.wrap ((J : Int) + 1) = (J : Int) + 1 := IntWalk.i64_in _ (by omega)
            have t1 : ((J : Int) + 1).toNat = J + 1 := by omega
            have z1 : 0 ≤ (J : Int) + 1 := by omega
            clear hV st hu hx hy hd hr e' hc0 hc1 hc2 hJL V hbd
            go_upto_region 11 with fail
            have P1 := Pl.new (w := wr) (p := (0, 0, 0)) (T := 28) wr.heap.size rfl
            have F1 := Frz3.new (w := wr) (cs := #[.int .i64 0, .int .i64 0, .int .i64 0]) (T := 28) wr.heap.size rfl
            have BA : Below wr.heap.size wr (wr.alloc (.cells #[.int .i64 0, .int .i64 0, .int .i64 0] 28)) := (Below.refl _ _).alloc (Nat.le_refl _) _
            have T1 : TwoI (wr.alloc (.cells #[.int .i64 0, .int .i64 0, .int .i64 0] 28)) ad J x y := ⟨(TT.out.keep BA).1, (TT.out.keep BA).2, Nat.lt_of_lt_of_le TT.out.lt BA.size⟩
            simp only at P1
            have GO := Lib.hid (G.out.2.1.below BA)
            obtain ⟨W1, e1⟩ : ∃ w1, w1 = wr.alloc (.cells #[.int .i64 0, .int .i64 0, .int .i64 0] 28) := ⟨_, rfl⟩
            rw [← e1] at P1 F1 BA T1 GO ⊢
            obtain ⟨b1, eb⟩ : ∃ b, b = wr.heap.size := ⟨_, rfl⟩
            rw [← eb] at P1 F1 BA ⊢
            have hc0 := T1.c0
            have hc1 := T1.c1
            have PX := Lib.hid P1
            have FX := Lib.hid F1
            have BX := Lib.hid BA
            have TX := Lib.hid T1
            have EB := Lib.hid eb
            have HLB := Lib.hid (show ad.block < b1 by rw [eb]; exact TT.out.lt)
            clear e1 eb P1 F1 BA T1
            go_cut [4] (fun s4 wx => s4 = .bool bb ∧ Hid (Pl wx b1 p ∧ Below b1 wr wx ∧ POwn wx w.heap.size u2 gk))
            case first =>
              go_region_held3 (fun w' => w'.cell? (ad.add J) = some (.int .i64 x) ∧ w'.cell? ⟨ad.block, ad.off + (J + 1), none⟩ = some (.int .i64 y))
                (first | exact TX.out.dr.keepB kb HLB.out | exact (TX.out.drN _).keepB kb HLB.out | exact TX.out.keepB kb HLB.out | exact TX.out.dr.keep kb | exact (TX.out.drN _).keep kb | exact TX.out.keep kb | go_keep)
                (first | (go_at_call 41; refine (rpulse_at HU.out _ bx by' hT').mono ?_; rintro e wh ⟨rfl, kb⟩; have h6 := held6 (Pl.dr PX.out) (Frz3.dr FX.out) kb; obtain ⟨d0, d1, d2, g0, g1, g2⟩ := h6))
              have d0' := d0
              have PW : Pl (((wh.setCell ⟨b1, 0, none⟩ (.int .i64 p.1)).setCell ⟨b1, 1, none⟩ (.int .i64 p.2.1)).setCell ⟨b1, 2, none⟩ (.int .i64 p.2.2)) b1 p := Pl.put3 d0 d1 d2 (Pl.below (Pl.dr PX.out) kb).lt
              have BW : Below b1 wr (((wh.setCell ⟨b1, 0, none⟩ (.int .i64 p.1)).setCell ⟨b1, 1, none⟩ (.int .i64 p.2.1)).setCell ⟨b1, 2, none⟩ (.int .i64 p.2.2)) := (((BX.out.drew.trans (kb.mono (by rw [EB.out]; exact Nat.le_of_lt (by have := PX.out.lt; rw [EB.out] at this; exact this)))).setCell (Nat.le_refl _) _).setCell (Nat.le_refl _) _).setCell (Nat.le_refl _) _
              have OW : POwn (((wh.setCell ⟨b1, 0, none⟩ (.int .i64 p.1)).setCell ⟨b1, 1, none⟩ (.int .i64 p.2.1)).setCell ⟨b1, 2, none⟩ (.int .i64 p.2.2)) w.heap.size u2 gk := G.out.2.1.below (by rw [← EB.out]; exact BW)
              clear d0 d1 d2 g0 g1 g2 d0'
              go_wp2_with fail
              go_meet
              case rel => exact ⟨rfl, PW, BW, OW⟩
            case rest =>
              obtain ⟨rfl, X⟩ := hcut
              have HSTEP := Lib.hid (show Below w.heap.size w wc from G.out.2.2.trans (X.out.2.1.mono (by rw [EB.out]; exact G.out.2.2.size)))
              obtain ⟨d, t, s⟩ := p
              have P2 := X.out.1
              obtain ⟨d0, d1, d2, dlt⟩ := P2
              have LG := Lib.hid G.out.1
              clear hc0 hc1 i1 i0' w1' t1 z1 bx by' hT'
              go_wp2_with (first | (at_builtin; refine wpList_append_lies _ rfl (.tmp 51) (.tmp 53) 25 rfl w.heap.size 28 i0 (.agg #[.int .i64 0, .int .i64 0, .int .i64 0]) 3 24 Tryd.underlying25 hi hz0 hz1 hz2 rfl (by decide) _ gk.length ((flatP gk).map (Value.int .i64)) rfl (X.out.2.2.alloc _) ⟨wc.heap.size, 0, none⟩ 1 1 ((flatP [(d, t, s)]).map (Value.int .i64)) rfl rfl (news_int (W := wc) (ys := flatP [(d, t, s)])) (one_cells (ys := flatP [(d, t, s)])) (by decide) (by unfold maxLen; have := LG.out; omega) (by have := LG.out; omega) (by have := HSTEP.out.size; simp only [World.size_alloc]; omega) _ rfl ?_; intro g cap w2 hown hgr hgb hlt2; have hcl := (Pl.grown (X.out.1.alloc (.cells #[.int .i64 d, .int .i64 t, .int .i64 s] 28)) hgr (fun e => by have h1 := (G.out.2.1.block e).2; rw [EB.out] at h1; exact Nat.lt_irrefl _ h1)).c1))
              have AP := POwn.app (l := gk) (m := [(d, t, s)]) hown rfl rfl
              have BN := Lib.hid ((HSTEP.out.alloc HSTEP.out.size (.cells #[.int .i64 d, .int .i64 t, .int .i64 s] 28)).grown hgr (by have := HSTEP.out.size; simp only [World.size_alloc]; omega) (fun j hj => (G.out.2.1.block hj).1))
              clear hcl hown hgr hgb hlt2 d0 d1 d2 hlb dlt
              go_roundw
              case rel =>
                refine ⟨k + 1, gk ++ [(d, t, s)], bb, t, J + 2, by omega, Lib.hid (by have := hJ.out; omega), by omega, by omega, by go_num, rfl, rfl, Lib.hid ⟨by rw [List.length_append, LG.out]; rfl, AP, BN.out⟩, Lib.hid ?_⟩
                cases bb with
                | true =>
                  obtain ⟨e1, e2⟩ := HS.out.1 rfl
                  have e3 : (0 : Int) ≤ t ∧ t ≤ 1000000000 := e2.2.1
                  refine Or.inl ⟨rfl, by omega, ?_⟩
                  rw [HV2.out, e1, Option.map_map]
                  congr 1
                  funext q
                  show (gk ++ (d, t, s) :: q, _) = (gk ++ [(d, t, s)] ++ q, _)
                  rw [List.append_assoc]; rfl
                | false =>
                  refine Or.inr ⟨rfl, ?_⟩
                  rw [HV2.out, HS.out.2 rfl]; rfl
              case measure => simp [intOf]; omega
          · obtain rfl : k = n := by omega
            have hJe : J = 4 + 2 * k := hJ.out
            have hP : grpR vs = (gk, 4 + 2 * k, true) := grpR_some (by
              rw [hV, Nat.sub_self]
              show some (gk ++ [], 4 + 2 * k) = _
              rw [List.append_nil])
            have HP := Lib.hid hP
            have hJi : ¬ (J : Int) < 4 + 2 * (k : Int) := by omega
            clear hV hP hJe V hT
            go_wp2_with fail
            exact bodyPost_ret (v := .tuple #[u2, .int .i64 (4 + 2 * (k : Int)), .bool true]) (by simp [results, Tryd.results31, go_sem]) rfl (GrpPost.mk' HP.out (by simp) G.out.2.1 G.out.2.2)
        · have HP := Lib.hid (grpR_none hV)
          clear hV V
          go_wp2_with fail
          all_goals exact bodyPost_ret (v := .tuple #[.slice none 0 0, .int .i64 0, .bool false]) (by simp [results, Tryd.results31, go_sem]) rfl (GrpPost.mk' HP.out rfl POwn.nil G.out.2.2)
end Go.Proofs.YtbpgbdnfoofnaaaDoor
