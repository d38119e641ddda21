/-
  Stage 10: the walk of TreeBeyond.
-/
import Derived.Test.YteeoecegpnmafaaDoorTLawK
import Derived.Test.YteeoecegpnmafaaDoorTBey
set_option linter.unusedSimpArgs false
set_option linter.unusedVariables false
namespace Go.Proofs.YteeoecegpnmafaaDoor
open Go.RowKit Go.Lib

/-- The set bs is what M says of the indexes below L. -/
def Says (bs : List Bool) (L : Nat) (M : Nat → Prop) : Prop := bs.length = L ∧ ∀ x, x < L → (bs.getD x false = true ↔ M x)
theorem LRow.setCell {w wr : World} {A : Option Addr} {c : Nat} {l : List El} (h : LRow w A c l) (k : Below w.heap.size w wr) : LRow wr A c l := h.below k
theorem own_set {w : World} {base g : Nat} {v : Value} {zs : List Int} (h : Own .i64 3 w base v zs) (hg : g < base) (j : Nat) (u : Value) : Own .i64 3 (w.setCell ⟨g, j, none⟩ u) base v zs := by
  refine h.kept (grown_setCell w ⟨g, j, none⟩ u) ?_
  by_cases e : v.ownBlock = none
  · exact Or.inl e
  · refine Or.inr (fun e2 => ?_)
    have := (own_block h (g := g) e2).1
    omega
theorem memZ_len (bs : List Bool) : (memZ bs).length ≤ bs.length := by
  unfold memZ
  rw [List.length_map]
  exact Nat.le_trans (List.length_filter_le _ _) (by rw [List.length_range]; exact Nat.le_refl _)
theorem says_all {l : List El} (h : TreeP l) {i : Int} (h0 : 0 ≤ i) (h1 : i < l.length) (hk : kindA l i ≠ 4) {bs : List Bool} {L : Nat} (hL : L = l.length) (hs : Says bs L (Mk10 l i L)) : memZ bs = byZ l i := by
  obtain ⟨a, b⟩ := hs
  subst hL
  unfold byZ
  rw [← a]
  refine memZ_is (fun x hx => ?_)
  have h2 := (b x (by omega)).trans (mk_all h h0 h1 hk (by omega))
  have h3 : (x : Int) ∈ byZ l i ↔ (isTrk l x && (onZ l (x : Int)).getD i.toNat false) = true := by
    unfold byZ
    rw [idx_mem, Int.toNat_natCast]
    constructor
    · rintro ⟨_, _, g⟩; exact g
    · intro g; exact ⟨by omega, by omega, g⟩
  have h4 := h2.trans h3
  cases hb : bs.getD x false with
  | true => exact (h4.1 hb).symm
  | false =>
    cases hc : (isTrk l x && (onZ l (x : Int)).getD i.toNat false) with
    | false => rfl
    | true => rw [h4.2 hc] at hb; cases hb
theorem says_set {bs : List Bool} {L x : Nat} {M N : Nat → Prop} (h : Says bs L M) (hx : x < L) (hN : ∀ y, y < L → (N y ↔ M y ∨ y = x)) : Says (bs.set x true) L N := by
  obtain ⟨a, b⟩ := h
  refine ⟨by rw [List.length_set]; exact a, fun y hy => ?_⟩
  rw [hN y hy]
  by_cases e : y = x
  · subst e
    rw [List.getD_eq_getElem?_getD, List.getElem?_set_self (by omega)]
    exact ⟨fun _ => Or.inr rfl, fun _ => rfl⟩
  · rw [List.getD_eq_getElem?_getD, List.getElem?_set_ne (fun g => e g.symm), ← List.getD_eq_getElem?_getD, b y hy]
    exact ⟨Or.inl, fun g => g.resolve_right e⟩
theorem says_iff {bs : List Bool} {L : Nat} {M N : Nat → Prop} (h : Says bs L M) (hN : ∀ y, y < L → (N y ↔ M y)) : Says bs L N := ⟨h.1, fun y hy => (h.2 y hy).trans (hN y hy).symm⟩
theorem says_not {bs : List Bool} {L x : Nat} {M : Nat → Prop} (h : Says bs L M) (hx : x < L) (hn : ¬ M x) : bs.getD x false = false := by
  cases hb : bs.getD x false with
  | false => rfl
  | true => exact absurd ((h.2 x hx).1 hb) hn
set_option maxRecDepth 100000 in
set_option maxHeartbeats 6400000 in
theorem bey_walk (A : Option Addr) (c : Nat) (zs : List Int) (w : World) (D : Dor w) (hr : Row .i64 w w.heap.size A zs) (hm : zs.length ≤ maxLen) (hw : ∀ n ∈ zs, (Lit.int .i64 n).wf = true) :
    Calls Tryd.prog 6 #[.slice A zs.length c] w (BoolPost true w) := by
  have K := Lib.hid (mk_row (c := c) (T := 49) hr hm hw)
  have B := Lib.hid ((Below.refl w.heap.size w).alloc (Nat.le_refl _) (.cells #[.slice A zs.length c, .int .i64 0] 49))
  obtain ⟨m, hmm⟩ : ∃ m, m = w.heap.size := ⟨_, rfl⟩
  have HMM := Lib.hid hmm
  have DD := Lib.hid D
  clear hr hw D
  go_enter Tryd.func6, Tryd.ntmps6
  go_wp2_with fail
  refine (new_any A zs.length c w).mono ?_
  rintro e w1 ⟨rfl, hw1⟩
  rw [← hw1] at K B
  rw [← hmm] at K ⊢
  clear hmm hw1 hm
  go_wp2_with fail
  refine (law_layout m 8 0 w w1 DD.out HMM.out K.out B.out (by omega) (by omega)).mono ?_
  rintro e w2 ⟨lA, lc, l, rfl, ⟨base, Y⟩, hl1, hl2⟩
  have HL := Lib.hid Y.row
  have HBB := Lib.hid Y.bel
  have HOK := Lib.hid Y.ok
  have HVL := Lib.hid Y.vl
  have HTP := Lib.hid (TreeP.of Y.ok)
  have HBY := Lib.hid (fun (i : Int) (h0 : 0 ≤ i) (h1 : i < l.length) (W : World) (k : Below w2.heap.size w2 W) => (by
    have := beyond_any l lA lc i W (HL.out.below k)
    rw [chk_of HOK.out (fun z hz => by rw [List.mem_singleton.1 hz]; exact ⟨h0, h1⟩), show pairE 0 (byZ l i) = byZ l i from rfl] at this
    exact this : Calls Tryd.prog 20 #[.slice lA l.length lc, .int .i64 i] W (PairPost (byZ l i) 0 W)))
  clear Y K B DD HMM
  have hch : chkZ l [] = 0 := chk_of HOK.out (fun z hz => by cases hz)
  have hp := tracks_any l lA lc w2 HL.out
  rw [hch, show pairE 0 (trkZ l) = trkZ l from rfl, by_zero HTP.out] at hp
  have HP := Lib.hid hp
  clear hch hp
  go_wp2_with fail
  refine HP.out.mono ?_
  rintro e w3 ⟨v1, rfl, O1, B3⟩
  obtain ⟨A1, c1, rfl, _⟩ := O1.slice
  have HO1 := Lib.hid O1
  have HB3 := Lib.hid B3
  clear HP O1 B3
  have hlL : (0 : Int) < (l.length : Int) := by omega
  go_wp2_with fail
  refine (HBY.out 0 (Int.le_refl _) (by omega) w3 HB3.out).mono ?_
  rintro e w4 ⟨v2, rfl, O2, B4⟩
  obtain ⟨A2, c2, rfl, R2, _, hlen2, _⟩ := O2.slice
  obtain ⟨_, _, e1, R1, _⟩ := (HO1.out.below B4).slice
  injection e1 with e1 e2 e3
  subst e1
  have HI := Lib.hid (ints_same (byZ l 0) A1 A2 c1 c2 w4 R1 R2 hlen2)
  have HB4 := Lib.hid (HB3.out.trans (B4.mono HB3.out.size))
  clear O2 B4 R1 R2 HO1 HB3 e2 e3 hlen2
  go_wp2_with fail
  refine HI.out.mono ?_
  rintro e _ ⟨rfl, n4, rfl⟩
  have HB5 := Lib.hid (bdn (n := n4) HB4.out)
  clear HI HB4
  generalize w4.drewN n4 = w5 at *
  obtain ⟨L, hL⟩ : ∃ n, n = l.length := ⟨_, rfl⟩
  have HLL := Lib.hid hL
  rw [← hL] at hl1 hl2 hlL ⊢
  have hBY := HBY.out
  rw [← hL] at hBY
  have HBY2 := Lib.hid hBY
  clear hL hBY HBY
  go_wp2_with fail
  go_loopw [8] (fun iv wr => ∃ i : Nat, i ≤ L ∧ iv = .int .i64 (i : Int) ∧ Hid (Below w2.heap.size w2 wr)) (fun iv _ => L - (intOf iv).toNat)
  case atStart => exact ⟨0, by omega, rfl, HB5⟩
  case round =>
    clear HB5
    obtain ⟨i, hi, rfl, HB⟩ := hrel
    by_cases hlt : i < L
    · have hlt' : (i : Int) < (L : Int) := by omega
      have HC := Lib.hid (HBY2.out (i : Int) (by omega) (by omega) wr HB.out)
      go_wp2_with fail
      refine HC.out.mono ?_
      rintro e w6 ⟨vb, rfl, Ob, B6⟩
      obtain ⟨x0, hx0⟩ := by_ne HTP.out HVL.out _ (i : Int) (by omega) (by have := HLL.out; omega) (Nat.le_refl _)
      have hbne : (byZ l (i : Int)).length ≠ 0 := by
        intro e
        rw [List.length_eq_zero_iff.1 e] at hx0
        cases hx0
      obtain ⟨bA, bc, rfl, hbc, hbg, hbl, _⟩ := own_some Ob hbne
      have HOb := Lib.hid Ob
      have HB6 := Lib.hid (HB.out.trans (B6.mono HB.out.size))
      have hblen : (byZ l (i : Int)).length ≤ l.length := idx_len _ _
      obtain ⟨Lb, hLb⟩ : ∃ n, n = (byZ l (i : Int)).length := ⟨_, rfl⟩
      have HLb := Lib.hid hLb
      have hLb0 : ((Lb : Int) == 0) = false := beq_eq_false_iff_ne.2 (by omega)
      have hLbL : Lb ≤ L := by have := HLL.out; omega
      rw [← hLb] at hbc ⊢
      have hmk := fun w => make_bools w L (by omega)
      have HS := Lib.hid (show BSet (w6.alloc (.cells (Array.replicate L (Value.bool false)) 4)) w6.heap.size (List.replicate L false) by have h := BSet.new w6 (List.replicate L false) w6.heap.size rfl; simpa using h)
      have HW6 := Lib.hid ((Below.refl w6.heap.size w6).alloc (Nat.le_refl _) (.cells (Array.replicate L (Value.bool false)) 4))
      have HSY := Lib.hid (show Says (List.replicate L false) L (Mk10 l (i : Int) 0) ∧ (memZ (List.replicate L false)).length = 0 from by
        refine ⟨⟨by simp, fun x hx => ?_⟩, ?_⟩
        · constructor
          · intro h; rw [List.getD_eq_getElem?_getD] at h; simp [hx] at h
          · intro h; exact absurd h mk_zero
        · rw [memZ_is (p := fun _ => false) (fun x hx => by
            have hx' : x < L := by simpa using hx
            rw [List.getD_eq_getElem?_getD, List.getElem?_replicate]; simp [hx'])]
          unfold idxZ; simp)
      obtain ⟨gi, hgi⟩ : ∃ g, g = w6.heap.size := ⟨_, rfl⟩
      have HGI := Lib.hid hgi
      clear Ob B6 HC hx0 hbne hbg hblen hLb HB
      go_wp2_with fail
      rw [← hgi] at HS ⊢
      clear hmk hgi hLb0
      generalize wr = wo at *
      go_loopw [11, 13] (fun nv iv wi => ∃ (C : Nat) (bs : List Bool), C ≤ L ∧ iv = .int .i64 (C : Int) ∧ nv = .int .i64 (((memZ bs).length : Nat) : Int) ∧ (memZ bs).length ≤ L ∧ Hid (Says bs L (Mk10 l (i : Int) C)) ∧ Hid (BSet wi gi bs) ∧ Hid (Below w6.heap.size w6 wi)) (fun _ iv _ => L - (intOf iv).toNat)
      case atStart => exact ⟨0, List.replicate L false, by omega, rfl, by rw [HSY.out.2]; rfl, by rw [HSY.out.2]; omega, Lib.hid HSY.out.1, HS, HW6⟩
      case round =>
        clear HS HW6 HSY
        obtain ⟨C, bs, hC, rfl, rfl, hn, SY, S, BW⟩ := hrel
        by_cases hCL : C < L
        · have hCL' : (C : Int) < (L : Int) := by omega
          obtain ⟨x, hx, ex1, _, _⟩ := el_at (l := l) (k := C) (by rw [← HLL.out]; exact hCL)
          have HR := HL.out.below (HB6.out.trans (BW.out.mono HB6.out.size))
          obtain ⟨ad, rfl, CC⟩ := HR.row.at_ hx
          have cc2 := (ESpelt.of CC).c2
          rw [← ex1] at cc2
          by_cases hpar : parA l (C : Int) = (i : Int)
          · rw [hpar] at cc2
            have HPAR := Lib.hid hpar
            have HCC := Lib.hid (HBY2.out (C : Int) (by omega) (by omega) wr (HB6.out.trans (BW.out.mono HB6.out.size)))
            have hgw : gi < wr.heap.size := S.out.lt
            clear HR CC hx ex1 hpar
            go_wp2_with fail
            refine HCC.out.mono ?_
            rintro e w7 ⟨vd, rfl, Od, B7⟩
            obtain ⟨dA, dc, rfl, _, _, hdl, _⟩ := Od.slice
            obtain ⟨dz, hdz⟩ : ∃ dz, dz = byZ l (C : Int) := ⟨_, rfl⟩
            rw [← hdz] at Od hdl ⊢
            have HDZ := Lib.hid hdz
            obtain ⟨Ld, hLd⟩ : ∃ n, n = dz.length := ⟨_, rfl⟩
            have HLd := Lib.hid hLd
            unfold maxLen at hdl
            rw [← hLd] at hdl
            have HD7 := Lib.hid Od
            have HS7 := Lib.hid (S.out.below B7)
            have BW7 := Lib.hid (BW.out.trans (B7.mono BW.out.size))
            rw [← hLd]
            rw [← hLd] at HD7
            have HT0 := Lib.hid (says_iff (N := fun x => Mk10 l (i : Int) C x ∨ (x : Int) ∈ dz.take 0) SY.out (fun y _ => by simp))
            clear Od B7 HCC hLd hdz cc2 S BW SY
            generalize wr = wp at *
            go_wp2_with fail
            go_loopw [11, 90] (fun nv jv wj => ∃ (j : Nat) (b3 : List Bool), j ≤ Ld ∧ jv = .int .i64 (j : Int) ∧ nv = .int .i64 (((memZ b3).length : Nat) : Int) ∧ (memZ b3).length ≤ L ∧ Hid (Says b3 L (fun x => Mk10 l (i : Int) C x ∨ (x : Int) ∈ dz.take j)) ∧ Hid (BSet wj gi b3) ∧ Hid (Below w6.heap.size w6 wj) ∧ Hid (Own .i64 3 wj wp.heap.size (.slice dA Ld dc) dz)) (fun _ jv _ => Ld - (intOf jv).toNat)
            case atStart => exact ⟨0, bs, by omega, rfl, rfl, hn, HT0, HS7, BW7, HD7⟩
            case round =>
              clear HT0 HS7 BW7 HD7 hn
              obtain ⟨j, b3, hj, rfl, rfl, hn, SY, S, BW, OD⟩ := hrel
              by_cases hjd : j < Ld
              · obtain ⟨_, _, e0, RD, _⟩ := OD.out.slice
                injection e0 with e1 e2 e3
                subst e1
                obtain ⟨dad, rfl, _, dc0⟩ := RD j (by rw [← HLd.out]; exact hjd)
                have hxm : dz.getD j 0 ∈ dz := getD_mem (by rw [← HLd.out]; exact hjd)
                have HT := Lib.hid (take_snocZ (show j < dz.length by rw [← HLd.out]; exact hjd))
                have hnd : dz.Nodup := by rw [HDZ.out]; exact idx_nodup _ _
                have hnt : dz.getD j 0 ∉ dz.take j := by
                  intro hmem
                  have hnd2 : (dz.take (j + 1)).Nodup := hnd.sublist (List.take_sublist _ _)
                  rw [HT.out, List.nodup_append] at hnd2
                  exact hnd2.2.2 _ hmem _ (by simp) rfl
                generalize dz.getD j 0 = z at *
                rw [HDZ.out] at hxm
                have hzm := (by_mem HTP.out.par (by omega)).1 hxm
                obtain ⟨q, rfl⟩ := Int.eq_ofNat_of_zero_le hzm.1
                have hqL : q < L := by have := HLL.out; omega
                have hq1 : (q : Int) < (L : Int) := by omega
                have hbf := says_not SY.out hqL (fun g => by
                  rcases g with g | g
                  · exact mkd_new HTP.out.par (by omega) HPAR.out hxm g
                  · exact hnt g)
                have cs := S.out.cell q (by rw [SY.out.1]; exact hqL)
                rw [hbf] at cs
                have fz := S.out.frozen q
                have hmore := memZ_more (by rw [SY.out.1]; exact hqL) hbf
                have hle := memZ_len (b3.set q true)
                rw [List.length_set, SY.out.1] at hle
                have SY2 := Lib.hid (says_set (N := fun x => Mk10 l (i : Int) C x ∨ (x : Int) ∈ dz.take (j + 1)) SY.out hqL (fun y _ => by
                  rw [HT.out, List.mem_append, List.mem_singleton]
                  constructor
                  · rintro (g | g | g)
                    · exact Or.inl (Or.inl g)
                    · exact Or.inl (Or.inr g)
                    · exact Or.inr (by omega)
                  · rintro ((g | g) | g)
                    · exact Or.inl g
                    · exact Or.inr (Or.inl g)
                    · exact Or.inr (Or.inr (by omega))))
                have S2 := Lib.hid (S.out.set q true)
                have BW2 := Lib.hid (BW.out.setCell (p := ⟨gi, q, none⟩) (by rw [HGI.out]; exact Nat.le_refl _) (.bool true))
                have OD2 := Lib.hid (own_set OD.out hgw q (.bool true))
                have HMO := Lib.hid hmore
                clear RD hxm hnd hnt hzm hbf hmore SY S BW OD e2 e3
                go_wp2_with fail
                go_roundw
                case rel => exact ⟨j + 1, b3.set q true, by omega, by go_num, by rw [HMO.out]; go_num, by omega, SY2, S2, BW2, OD2⟩
                case measure => simp [intOf]; omega
              · obtain rfl : j = Ld := by omega
                have SY3 := Lib.hid (says_iff (N := Mk10 l (i : Int) (C + 1)) SY.out (fun y hy => by
                  rw [mk_kid HTP.out.par (by have := HLL.out; omega) HPAR.out, HLd.out, List.take_length, HDZ.out]))
                clear SY OD
                go_wp2_with fail
                go_roundw
                case rel => exact ⟨C + 1, b3, by omega, by go_num, rfl, hn, SY3, S, BW⟩
                case measure => simp [intOf]; omega
          · have hpb : (parA l (C : Int) != (i : Int)) = true := bne_iff_ne.2 hpar
            have SY2 := Lib.hid (says_iff (N := Mk10 l (i : Int) (C + 1)) SY.out (fun y _ => mk_skip hpar))
            generalize parA l (C : Int) = pp at *
            clear HR CC hx ex1 hpar SY
            go_wp2_with fail
            go_roundw
            case rel => exact ⟨C + 1, bs, by omega, by go_num, rfl, hn, SY2, S, BW⟩
            case measure => simp [intOf]; omega
        · obtain rfl : C = L := by omega
          obtain ⟨x, hx, _, ek, _⟩ := el_at (l := l) (k := i) (by rw [← HLL.out]; exact hlt)
          have HR := HL.out.below (HB6.out.trans (BW.out.mono HB6.out.size))
          obtain ⟨ad, rfl, CC⟩ := HR.row.at_ hx
          have cc0 := (ESpelt.of CC).c0
          rw [← ek] at cc0
          have HB2 := Lib.hid (HB6.out.trans (BW.out.mono HB6.out.size))
          have HO2 := Lib.hid (HOb.out.below BW.out)
          by_cases hk : kindA l (i : Int) = 4
          · rw [hk] at cc0
            have hb1 := by_trk HTP.out (show (0 : Int) ≤ (i : Int) by omega) (by have := HLL.out; omega) hk
            have hLb1 : Lb = 1 := by rw [HLb.out, hb1]; rfl
            have HO3 := Lib.hid (show Own .i64 3 wr wo.heap.size (.slice (some ⟨bA, 0, none⟩) 1 bc) [(i : Int)] by have := HO2.out; rw [hb1] at this; exact this)
            clear HR CC hx ek hb1 hk SY S HO2 HOb
            subst hLb1
            go_wp2_with fail
            obtain ⟨_, _, eO, RO, _⟩ := (HO3.out.alloc (.cells #[.int .i64 (i : Int)] 3)).slice
            injection eO with eO1 eO2 eO3
            subst eO1
            obtain ⟨_, _, eN, RN, _⟩ := (Own.laid (k := .i64) (T := 3) wr wr.heap.size (Nat.le_refl _) [(i : Int)] 1 rfl (by decide)).slice
            injection eN with eN1 eN2 eN3
            subst eN1
            refine (ints_same [(i : Int)] (some ⟨bA, 0, none⟩) (some ⟨wr.heap.size, 0, none⟩) bc 1 _ RO RN (by show 1 ≤ maxLen; decide)).mono ?_
            rintro e _ ⟨rfl, n1, rfl⟩
            have HB9 := Lib.hid (bdn (n := n1) (HB2.out.alloc HB2.out.size (.cells #[.int .i64 (i : Int)] 3)))
            clear RO RN eO2 eO3 eN2 eN3 HO3 cc0
            go_wp2_with fail
            go_roundw
            case rel => exact ⟨i + 1, by omega, by go_num, HB9⟩
            case measure => simp [intOf]; omega
          · have hkb : (kindA l (i : Int) == 4) = false := beq_eq_false_iff_ne.2 hk
            have hmz := says_all HTP.out (show (0 : Int) ≤ (i : Int) by omega) (by have := HLL.out; omega) hk HLL.out SY.out
            have HMA := Lib.hid (fun (q : Nat) (hq : q < C) (h : (q : Int) ∈ byZ l (i : Int)) => (SY.out.2 q hq).2 (by
              have := (mk_all HTP.out (show (0 : Int) ≤ (i : Int) by omega) (by have := HLL.out; omega) hk (x := q) (by have := HLL.out; omega)).2 h
              rw [← HLL.out] at this; exact this))
            have HMB := Lib.hid (fun z (h : z ∈ byZ l (i : Int)) => (by_mem HTP.out.par (show (0 : Int) ≤ (i : Int) by omega)).1 h)
            have HLS := Lib.hid SY.out.1
            have hnl : (memZ bs).length = Lb := by rw [hmz, HLb.out]
            generalize (memZ bs).length = nn at *
            subst hnl
            generalize kindA l (i : Int) = kd at *
            clear HR CC hx ek hk SY hmz HOb
            obtain ⟨_, _, eO, RO, _⟩ := HO2.out.slice
            injection eO with eO1 eO2 eO3
            subst eO1
            have HRO := Lib.hid RO
            clear RO eO2 eO3 HO2
            generalize wr = wq at *
            go_wp2_with fail
            go_loopw [131] (fun jv wj => (∃ n, wj = wq.drewN n) ∧ ∃ j : Nat, j ≤ nn ∧ jv = .int .i64 (j : Int)) (fun jv _ => nn - (intOf jv).toNat)
            case atStart => exact ⟨⟨0, rfl⟩, 0, by omega, rfl⟩
            case round =>
              obtain ⟨⟨n7, hwn⟩, j, hj, rfl⟩ := hrel
              by_cases hjd : j < nn
              · obtain ⟨dad, e9, _, dc0⟩ := HRO.out j (by rw [← HLb.out]; exact hjd)
                injection e9 with e9
                subst e9
                have hxm : (byZ l (i : Int)).getD j 0 ∈ byZ l (i : Int) := getD_mem (by rw [← HLb.out]; exact hjd)
                generalize (byZ l (i : Int)).getD j 0 = z at *
                have hzm := HMB.out z hxm
                obtain ⟨q, rfl⟩ := Int.eq_ofNat_of_zero_le hzm.1
                have hqL : q < C := by have := HLL.out; omega
                have hq1 : (q : Int) < (C : Int) := by omega
                have cs := S.out.cell q (by rw [HLS.out]; exact hqL)
                rw [HMA.out q hqL hxm] at cs
                have d0 : wr.cell? ((⟨bA, 0, none⟩ : Addr).add j) = some (.int .i64 (q : Int)) := by rw [hwn]; exact dc0
                have d1 : wr.cell? ⟨gi, q, none⟩ = some (.bool true) := by rw [hwn]; exact cs
                rw [add_own] at d0
                have HW := Lib.hid hwn
                clear dc0 cs hxm hzm hwn
                go_wp2_with fail
                go_roundw
                case rel => exact ⟨⟨n7, HW.out⟩, j + 1, by omega, by go_num⟩
                case measure => simp [intOf]; omega
              · obtain rfl : j = nn := by omega
                have HB9 := Lib.hid (show Below w2.heap.size w2 wr by rw [hwn]; exact bdn HB2.out)
                clear hwn
                go_wp2_with fail
                go_roundw
                case rel => exact ⟨i + 1, by omega, by go_num, HB9⟩
                case measure => simp [intOf]; omega
    · obtain rfl : i = L := by omega
      go_wp2_with fail
      refine (sane_any _ ((HL.out.below HB.out).dor)).mono ?_
      rintro e w8 ⟨rfl, B8⟩
      have Y9 := Lib.hid (HBB.out.trans ((HB.out.trans (B8.mono HB.out.size)).mono HBB.out.size))
      clear B8
      go_wp2_with fail
      go_ret
      exact ⟨rfl, Y9.out⟩
end Go.Proofs.YteeoecegpnmafaaDoor
