/-
  Stage 9: the reference's Format.
-/
import Derived.Test.YtgohocbkkhnmnaaGreatDoorLValW
import Derived.Test.YtgohocbkkhnmnaaGreatDoorLDec
import Derived.Test.YtgohocbkkhnmnaaGreatDoorLRLn
import Derived.Test.YtgohocbkkhnmnaaGreatDoorReg
import Derived.Deep.RegionHeld3
import Derived.Deep.RegionLaw
import Derived.StillTailTactics
set_option linter.unusedSimpArgs false
set_option linter.unusedVariables false
namespace Go.Proofs.YtgohocbkkhnmnaaGreatDoor
open Go.RowKit Go.Lib

set_option maxHeartbeats 800000 in
theorem rkinds_any (w : World) : Calls Tryz.prog 23 #[] w fun e w' => e = .returned (.slice (some ⟨w.heap.size, 0, none⟩) 5 5) ∧ w' = w.alloc (.cells #[.string (bs [99, 114, 101, 115, 116]), .string (bs [115, 101, 103, 109, 101, 110, 116]), .string (bs [114, 101, 116, 97, 114, 100, 101, 114]), .string (bs [115, 119, 105, 116, 99, 104]), .string (bs [116, 114, 97, 99, 107])] 9) := by
  go_enter Tryz.func23, Tryz.ntmps23
  go_wp2
  go_ret
  exact ⟨rfl, rfl⟩

/-- The cells that the reference's line reads: the copy at block g, the parent's name. -/
theorem lit_cell (w : World) (T : TypeId) {sd : Nat} (h : sd < 3) : (w.alloc (.cells #[.string ⟨#[]⟩, .string ⟨#[58, 108, 101, 102, 116]⟩, .string ⟨#[58, 114, 105, 103, 104, 116]⟩] T)).cell? ⟨w.heap.size, sd, none⟩ = some (.string (bs (sxL.getD sd []))) := by
  rw [cell_new]
  rcases (by omega : sd = 0 ∨ sd = 1 ∨ sd = 2) with rfl | rfl | rfl <;> rfl
def tlN (_ : Nat) : Bool := false
section
variable {ops : Array Oper} {Q : Exit → Act → World → Prop} {S S2 : World → Prop} {tl : Nat → Bool}
theorem AnyT.more {P : Program} (hm : ∀ w, S2 w → S w) : ∀ (fuel : Nat) (listed : Array Bool) (a : Act) (w : World), AnyT P ops Q S2 tl fuel listed a w → AnyT P ops Q S tl fuel listed a w
  | 0, _, _, _, h => h
  | fuel + 1, _, _, _, h => ⟨h.1, fun i hi => wpOp_mono (fun a' w' h' => ⟨fun ht => hm _ (h'.1 ht), AnyT.more hm fuel _ a' w' h'.2⟩) (h.2 i hi)⟩
/-- The three suffixes are laid. -/
theorem stepLit {q : World} {i : Nat} {o : Oper} {fuel : Nat} {listed : Array Bool} {a : Act} {T : TypeId} {dd : Option Tmp} (ho : ops[i]? = some o) (hg : o.guard = none) (hd : o.dst = dd)
    (hrun : (execOp a.eval o).run Tryz.prog q = .ok (.value (.slice (some ⟨q.heap.size, 0, none⟩) 3 3)) (q.alloc (.cells #[.string ⟨#[]⟩, .string ⟨#[58, 108, 101, 102, 116]⟩, .string ⟨#[58, 114, 105, 103, 104, 116]⟩] T))) (hS : ∀ X, Below q.heap.size q X → S X)
    (k : ∀ q1 b, b = q.heap.size → Below q.heap.size q q1 → (∀ j, j < 3 → q1.cell? ⟨b, j, none⟩ = some (.string (bs (sxL.getD j [])))) → AnyT Tryz.prog ops Q S tl fuel (listed.setIfInBounds i true) (a.put dd (.slice (some ⟨b, 0, none⟩) 3 3)) q1) :
    wpOp Tryz.prog ops Q i (fun a' w' => (tl i = false → S w') ∧ AnyT Tryz.prog ops Q S tl fuel (listed.setIfInBounds i true) a' w') a q := by
  have hB := (Below.refl q.heap.size q).alloc (Nat.le_refl _) (.cells #[.string ⟨#[]⟩, .string ⟨#[58, 108, 101, 102, 116]⟩, .string ⟨#[58, 114, 105, 103, 104, 116]⟩] T)
  refine AnyT.yield ho hg hd hrun (fun _ => hS _ hB) ?_
  exact k _ _ rfl hB (fun j hj => lit_cell q T hj)
/-- A number is put in words. -/
theorem stepDec {q : World} {i : Nat} {o : Oper} {fuel : Nat} {listed : Array Bool} {a : Act} {n : Int} {dd : Option Tmp} (ho : ops[i]? = some o) (hg : o.guard = none) (hd : o.dst = dd)
    (hrun : (execOp a.eval o).run Tryz.prog q = .ok (.enter 24 #[.int .i64 n]) q)
    (hc : Calls Tryz.prog 24 #[.int .i64 n] q fun e w' => e = .returned (.string (itoB n)) ∧ Below q.heap.size q w') (hS : ∀ X, Below q.heap.size q X → S X)
    (k : ∀ q1, Below q.heap.size q q1 → AnyT Tryz.prog ops Q S tl fuel (listed.setIfInBounds i true) (a.put dd (.string (itoB n))) q1) :
    wpOp Tryz.prog ops Q i (fun a' w' => (tl i = false → S w') ∧ AnyT Tryz.prog ops Q S tl fuel (listed.setIfInBounds i true) a' w') a q := by
  refine AnyT.enter ho hg hd hrun hc ?_
  rintro e q1 ⟨rfl, hB⟩
  exact ⟨_, rfl, fun _ => hS _ hB, k q1 hB⟩
theorem seven {p1 p2 p3 p4 p5 p6 p7 : Prop} (h : p1 ∧ p2 ∧ p3 ∧ p4 ∧ p5 ∧ p6) (h7 : p7) : p1 ∧ p2 ∧ p3 ∧ p4 ∧ p5 ∧ p6 ∧ p7 := ⟨h.1, h.2.1, h.2.2.1, h.2.2.2.1, h.2.2.2.2.1, h.2.2.2.2.2, h7⟩
end
theorem itoB_size {n : Int} (h : -1000000000 ≤ n ∧ n ≤ 1000000000) : (itoB n).size ≤ 21 := by
  have := itoB_le h
  rwa [Array.length_toList] at this
theorem go_on {W0 w w' : World} (h : Below W0.heap.size W0 w) (kb : Below w.heap.size w w') : Below W0.heap.size W0 w' := h.trans (kb.mono h.size)
theorem go_dr {W0 w : World} (h : Below W0.heap.size W0 w) : Below W0.heap.size W0 w.drew := bdn (n := 1) h
theorem go_al {W0 w : World} (h : Below W0.heap.size W0 w) (o : Obj) : Below W0.heap.size W0 (w.alloc o) := h.alloc h.size o
theorem valid_vlF {l : List El} (hv : validE l = 0) : vlE [] l = 0 := by
  unfold validE at hv
  split at hv
  · cases hv
  · split at hv
    · cases hv
    · split at hv
      · assumption
      · exact hv
theorem kw_cell (w : World) (T : TypeId) {kd : Nat} (h : kd < 5) : (w.alloc (.cells #[.string (bs [99, 114, 101, 115, 116]), .string (bs [115, 101, 103, 109, 101, 110, 116]), .string (bs [114, 101, 116, 97, 114, 100, 101, 114]), .string (bs [115, 119, 105, 116, 99, 104]), .string (bs [116, 114, 97, 99, 107])] T)).cell? ⟨w.heap.size, kd, none⟩ = some (.string (bs (kwL.getD kd []))) := by
  rw [cell_new]
  rcases (by omega : kd = 0 ∨ kd = 1 ∨ kd = 2 ∨ kd = 3 ∨ kd = 4) with rfl | rfl | rfl | rfl | rfl <;> rfl
set_option maxRecDepth 100000 in
set_option maxHeartbeats 3200000 in
theorem rfmt_any : RFmt := by
  intro l A c w h hf
  have hl : l.length ≤ 9223372036854775807 := h.len
  have HV := Lib.hid (rvalid_any l A c w h hf)
  have H := Lib.hid h
  obtain ⟨L, hL⟩ : ∃ n, n = l.length := ⟨_, rfl⟩
  have HL := Lib.hid hL
  rw [← hL] at hl HV ⊢
  clear h hL hf
  go_enter Tryz.func14, Tryz.ntmps14
  go_wp2_with fail
  refine HV.out.mono ?_
  rintro e w1 ⟨rfl, B1⟩
  have HB1 := Lib.hid B1
  have HH1 := Lib.hid (H.out.below B1)
  obtain ⟨ve, hve⟩ : ∃ ve, ve = validE l := ⟨_, rfl⟩
  have HVE := Lib.hid hve
  rw [← hve]
  clear HV B1 hve H
  by_cases h0 : ve = 0
  · have ee : (ve != 0) = false := by rw [h0]; rfl
    have HFM := Lib.hid (show fmtE l = (bs (textE l l.length), 0) by unfold fmtE; rw [if_pos (by rw [← HVE.out]; exact h0)])
    have HOK := Lib.hid (fun x (hx : x ∈ l) => okW_of (by rw [← HVE.out]; exact h0) hx)
    have HVL := Lib.hid (show vlE [] l = 0 from valid_vlF (by rw [← HVE.out]; exact h0))
    have hm : L ≤ 128 := by
      have hv := HVE.out
      rw [h0] at hv
      unfold validE at hv
      split at hv
      · cases hv
      · have := HL.out; omega
    clear h0
    go_wp2_with fail
    go_loopw [5, 6] (fun ov iv wr => ∃ k : Nat, k ≤ L ∧ iv = .int .i64 (k : Int) ∧ ov = .string (bs (textE l k)) ∧ Hid (Below w1.heap.size w1 wr) ∧ Hid ((textE l k).length ≤ k * 301)) (fun _ iv _ => L - (intOf iv).toNat)
    case atStart => exact ⟨0, by omega, rfl, by simp [textE, bs], Lib.hid (Below.refl _ _), Lib.hid (by simp [textE])⟩
    case round =>
      obtain ⟨k, hk, rfl, rfl, B, TL⟩ := hrel
      by_cases hlt : k < L
      · obtain ⟨x, hx, hd, ht⟩ := drop_ex (l := l) (k := k) (by rw [← HL.out]; exact hlt)
        have hmem := List.mem_of_getElem? hx
        obtain ⟨ad, rfl, C⟩ := (HH1.out.below B.out).at_ hx
        obtain ⟨c0, c1, c2, c3, c4, c5, c6, c7⟩ := ESpelt.of C
        have HO := Lib.hid (HOK.out x hmem)
        have hnx := HO.out.z x hmem
        have HTX := Lib.hid (textE_snoc ht)
        have HLE := Lib.hid (lineT_le HO.out hnx)
        obtain ⟨kd, hkd⟩ := Int.eq_ofNat_of_zero_le HO.out.k.1
        have hkd5 : kd < 5 := by have := HO.out.k.2; omega
        rw [hkd] at c0
        have htl : (bs (textE l k)).size ≤ 38528 := by have := TL.out; show (textE l k).length ≤ _; omega
        have HKN := Lib.hid (fun (W : World) (T : TypeId) => kw_cell W T hkd5)
        have hkn : (bs (kwL.getD kd [])).size ≤ 8 := by
          rcases (by omega : kd = 0 ∨ kd = 1 ∨ kd = 2 ∨ kd = 3 ∨ kd = 4) with rfl | rfl | rfl | rfl | rfl <;> decide
        obtain ⟨kn, hkE⟩ : ∃ s, s = bs (kwL.getD kd []) := ⟨_, rfl⟩
        obtain ⟨ot, hoE⟩ : ∃ s, s = bs (textE l k) := ⟨_, rfl⟩
        have HSTEP := Lib.hid (show kd = 0 ↔ k = 0 from by
          have hv : vlE [] l = 0 := HVL.out
          have h2 := (stepE_parts (vlE_zero hv hx)).2.1
          rw [hkd, List.nil_append, List.length_take] at h2
          have := HL.out
          omega)
        have HLN0 := Lib.hid (show kd = 0 → bs (textE l (k + 1)) = (ot ++ ((kn ++ ⟨#[32]⟩) ++ x.name)) ++ ⟨#[10]⟩ from fun g => by
          have g2 : x.kind = 0 := by rw [hkd, g]; rfl
          rw [HTX.out, hoE, hkE, bs_app]
          unfold lineT wofE
          rw [g2, g]
          rw [show x.name = bs x.name.data.toList from rfl, show (⟨#[32]⟩ : ByteArray) = bs [32] from rfl, show (⟨#[10]⟩ : ByteArray) = bs [10] from rfl, ← bs_app, ← bs_app, ← bs_app, ← bs_app, ← bs_app]
          congr 1
          simp [Lib.join, Lib.joinTail, nlK, bs])
        have HLNK := Lib.hid (show kd ≠ 0 → bs (textE l (k + 1)) = (if kd = 2 then ((ot ++ ((kn ++ ⟨#[32]⟩) ++ x.name)) ++ midE x l) ++ (⟨#[32]⟩ ++ itoB x.pow) else (ot ++ ((kn ++ ⟨#[32]⟩) ++ x.name)) ++ midE x l) ++ ⟨#[10]⟩ from fun g => by
          rw [HTX.out, hoE, hkE]; exact bs_line (textE l k) hkd g hkd5)
        have HTL2 := Lib.hid (show (textE l (k + 1)).length ≤ (k + 1) * 301 from by rw [HTX.out, List.length_append]; have := TL.out; have := HLE.out; unfold lineT; rw [List.length_append]; simp only [List.length_cons, List.length_nil]; omega)
        rw [← hkE] at HKN hkn
        rw [← hoE] at htl ⊢
        clear hkE hoE
        have hi5 : (kd : Int) < 5 := by omega
        clear hx hd ht C hmem
        go_upto_region 9 with fail
        clear c0 c1 c2 c3 c4 c5 c6 c7
        obtain ⟨kx, nx, px, sx, lx, gx, cx, wx⟩ := x
        simp only at hkd hnx
        subst hkd
        have hcc1 : ¬ 9223372036854775807 < kn.size + 1 := by omega
        have hcc2 : ¬ 9223372036854775807 < kn.size + 1 + nx.size := by omega
        have hcc3 : ¬ 9223372036854775807 < ot.size + (kn.size + 1 + nx.size) := by omega
        generalize hwa : wr.alloc (.cells #[.int .i64 (kd : Int), .string nx, .int .i64 px, .int .i64 sx, .int .i64 lx, .int .i64 gx, .int .i64 cx, .int .i64 wx] 35) = wa at *
        have hc0 : wa.cell? ⟨wr.heap.size, 0, none⟩ = some (.int .i64 (kd : Int)) := by rw [← hwa, cell_new]; rfl
        have hc1 : wa.cell? ⟨wr.heap.size, 1, none⟩ = some (.string nx) := by rw [← hwa, cell_new]; rfl
        have hc2 : wa.cell? ⟨wr.heap.size, 2, none⟩ = some (.int .i64 px) := by rw [← hwa, cell_new]; rfl
        have hc3 : wa.cell? ⟨wr.heap.size, 3, none⟩ = some (.int .i64 sx) := by rw [← hwa, cell_new]; rfl
        have hc4 : wa.cell? ⟨wr.heap.size, 4, none⟩ = some (.int .i64 lx) := by rw [← hwa, cell_new]; rfl
        have hc5 : wa.cell? ⟨wr.heap.size, 5, none⟩ = some (.int .i64 gx) := by rw [← hwa, cell_new]; rfl
        have hc6 : wa.cell? ⟨wr.heap.size, 6, none⟩ = some (.int .i64 cx) := by rw [← hwa, cell_new]; rfl
        have hc7 : wa.cell? ⟨wr.heap.size, 7, none⟩ = some (.int .i64 wx) := by rw [← hwa, cell_new]; rfl
        have HCS := Lib.hid (And.intro hc2 (And.intro hc3 (And.intro hc4 (And.intro hc5 (And.intro hc6 hc7)))))
        clear hc2 hc3 hc4 hc5 hc6 hc7
        have hsz : wr.heap.size < wa.heap.size := by rw [← hwa]; simp
        have HBA := Lib.hid (show Below w1.heap.size w1 wa from by rw [← hwa]; exact B.out.alloc B.out.size _)
        clear hwa
        generalize wr.heap.size = gx' at *
        go_cut [5] (fun v W => v = .string (ot ++ ((kn ++ ⟨#[32]⟩) ++ nx)) ∧ Hid (Below wa.heap.size wa W))
        case first =>
          go_region_law (go_simp; go_at_call 23; refine (rkinds_any _).mono ?_; rintro e wk ⟨rfl, hwk⟩; have hk0 := HKN.out wa.drew 9; rw [← hwk] at hk0; replace hk0 : wk.cell? ⟨wa.heap.size, kd, none⟩ = some (.string kn) := hk0; have hb := (show Below wa.heap.size wa wk by rw [hwk]; exact (bdn (n := 1) (Below.refl _ _)).alloc (Nat.le_refl _) _); have hd0 := (hb.cell (p := ⟨gx', 0, none⟩) hsz).trans hc0; have hd1 := (hb.cell (p := ⟨gx', 1, none⟩) hsz).trans hc1; clear hwk)
          all_goals
            have HBK := Lib.hid hb
            clear hk0 hd0 hd1 hb
            go_wp2_with fail
            go_meet
            case rel => exact ⟨rfl, HBK⟩
        case rest =>
          obtain ⟨rfl, HBW⟩ := hcut
          have hd0 := (HBW.out.cell (p := ⟨gx', 0, none⟩) hsz).trans hc0
          by_cases hk0 : k = 0
          · obtain rfl : kd = 0 := HSTEP.out.2 hk0
            have HLN := Lib.hid (HLN0.out rfl)
            subst hk0
            have HBX := Lib.hid (HBA.out.trans (HBW.out.mono HBA.out.size))
            have hcc4 : ¬ 9223372036854775807 < ot.size + (kn.size + 1 + nx.size) + 1 := by omega
            clear hc0 hc1 HBW HBA
            go_wp2_with fail
            go_roundw
            case rel => exact ⟨1, by omega, by go_num, by rw [show (1 : Nat) = 0 + 1 from rfl, HLN.out], HBX, HTL2⟩
            case measure => simp [intOf]; omega
          · have hkd0 : kd ≠ 0 := fun g => hk0 (HSTEP.out.1 g)
            have hkx : ((kd : Int)) ≠ 0 := by omega
            obtain ⟨hp0, hp1⟩ := HO.out.p hkx
            simp only at hp0 hp1
            obtain ⟨pq, rfl⟩ := Int.eq_ofNat_of_zero_le hp0
            have hsd := HO.out.s
            simp only at hsd
            obtain ⟨sq, rfl⟩ := Int.eq_ofNat_of_zero_le hsd.1
            have hsq : sq < 3 := by omega
            have hpl : pq < l.length := by omega
            obtain ⟨y, hy⟩ : ∃ y, l[pq]? = some y := ⟨_, List.getElem?_eq_getElem hpl⟩
            have HY := Lib.hid (show l.getD pq zeroE = y by rw [List.getD_eq_getElem?_getD, hy]; rfl)
            have hyn := HO.out.z y (List.mem_of_getElem? hy)
            have HBX := Lib.hid (HBA.out.trans (HBW.out.mono HBA.out.size))
            obtain ⟨ad', ea, CY⟩ := (HH1.out.below HBX.out).at_ hy
            injection ea with ea
            subst ea
            have cy := (ESpelt.of CY).c1
            have HLN := Lib.hid (HLNK.out hkd0)
            have HMID := Lib.hid (show midE ⟨(kd : Int), nx, (pq : Int), (sq : Int), lx, gx, cx, wx⟩ l = (((((((⟨#[32]⟩ ++ y.name) ++ bs (sxL.getD sq [])) ++ ⟨#[32]⟩) ++ itoB lx) ++ ⟨#[32]⟩) ++ itoB gx) ++ ⟨#[32]⟩) ++ itoB cx by
              unfold midE
              show (((((((⟨#[32]⟩ ++ (l.getD pq zeroE).name) ++ _) ++ _) ++ _) ++ _) ++ _) ++ _) ++ _ = _
              rw [HY.out]; rfl)
            have hpL : (pq : Int) < (L : Int) := by have := HL.out; omega
            obtain ⟨pn, hpn⟩ : ∃ s, s = y.name := ⟨_, rfl⟩
            rw [← hpn] at hyn HMID cy
            obtain ⟨sS, hsS⟩ : ∃ s, s = bs (sxL.getD sq []) := ⟨_, rfl⟩
            have hsz6 : sS.size ≤ 6 := by
              rw [hsS]
              rcases (by omega : sq = 0 ∨ sq = 1 ∨ sq = 2) with rfl | rfl | rfl <;> decide
            have hlit : ∀ (X : World) (T : TypeId), (X.alloc (.cells #[.string ⟨#[]⟩, .string ⟨#[58, 108, 101, 102, 116]⟩, .string ⟨#[58, 114, 105, 103, 104, 116]⟩] T)).cell? ⟨X.heap.size, sq, none⟩ = some (.string sS) := fun X T => by rw [hsS]; exact lit_cell X T hsq
            rw [← hsS] at HMID
            have hz1 := itoB_size HO.out.n.1
            have hz2 := itoB_size HO.out.n.2.1
            have hz3 := itoB_size HO.out.n.2.2.1
            simp only at hz1 hz2 hz3
            obtain ⟨o1, ho1⟩ : ∃ s, s = ot ++ ((kn ++ ⟨#[32]⟩) ++ nx) := ⟨_, rfl⟩
            have ho1s : o1.size ≤ 40000 := by
              rw [ho1, ByteArray.size_append, ByteArray.size_append, ByteArray.size_append]
              show _ + (_ + 1 + _) ≤ _
              omega
            simp only at HLN
            rw [← ho1, HMID.out] at HLN
            rw [← ho1]
            have HDEC := Lib.hid (fun (n : Int) (X : World) (h : n = lx ∨ n = gx ∨ n = cx ∨ n = wx) => decimal_any n X (by
              have h1 := HO.out.n
              simp only at h1
              rcases h with rfl | rfl | rfl | rfl <;> omega))
            have g1 : ¬ 9223372036854775807 < 1 + pn.size := by omega
            have g2 : ¬ 9223372036854775807 < 1 + pn.size + sS.size := by omega
            have g3 : ¬ 9223372036854775807 < 1 + pn.size + sS.size + 1 := by omega
            have g4 : ¬ 9223372036854775807 < 1 + pn.size + sS.size + 1 + (itoB lx).size := by omega
            have g5 : ¬ 9223372036854775807 < 1 + pn.size + sS.size + 1 + (itoB lx).size + 1 := by omega
            have g6 : ¬ 9223372036854775807 < 1 + pn.size + sS.size + 1 + (itoB lx).size + 1 + (itoB gx).size := by omega
            have g7 : ¬ 9223372036854775807 < 1 + pn.size + sS.size + 1 + (itoB lx).size + 1 + (itoB gx).size + 1 := by omega
            have g8 : ¬ 9223372036854775807 < 1 + pn.size + sS.size + 1 + (itoB lx).size + 1 + (itoB gx).size + 1 + (itoB cx).size := by omega
            have g9 : ¬ 9223372036854775807 < o1.size + (1 + pn.size + sS.size + 1 + (itoB lx).size + 1 + (itoB gx).size + 1 + (itoB cx).size) := by omega
            have hszc : gx' < wc.heap.size := Nat.lt_of_lt_of_le hsz HBW.out.size
            have hadc : (ad.add (pq * 8)).block < wc.heap.size := lt_of_cell (a := ⟨(ad.add (pq * 8)).block, (ad.add (pq * 8)).off + 1, none⟩) cy
            have q2 := (HBW.out.cell (p := ⟨gx', 2, none⟩) hsz).trans HCS.out.1
            have q3 := (HBW.out.cell (p := ⟨gx', 3, none⟩) hsz).trans HCS.out.2.1
            have q4 := (HBW.out.cell (p := ⟨gx', 4, none⟩) hsz).trans HCS.out.2.2.1
            have q5 := (HBW.out.cell (p := ⟨gx', 5, none⟩) hsz).trans HCS.out.2.2.2.1
            have q6 := (HBW.out.cell (p := ⟨gx', 6, none⟩) hsz).trans HCS.out.2.2.2.2.1
            have q7 := (HBW.out.cell (p := ⟨gx', 7, none⟩) hsz).trans HCS.out.2.2.2.2.2
            have KP := Lib.hid (fun (X : World) (hb : Below wc.heap.size wc X) => (show X.cell? ⟨gx', 2, none⟩ = some (.int .i64 (pq : Int)) ∧ X.cell? ⟨gx', 3, none⟩ = some (.int .i64 (sq : Int)) ∧ X.cell? ⟨gx', 4, none⟩ = some (.int .i64 lx) ∧ X.cell? ⟨gx', 5, none⟩ = some (.int .i64 gx) ∧ X.cell? ⟨gx', 6, none⟩ = some (.int .i64 cx) ∧ X.cell? ⟨(ad.add (pq * 8)).block, (ad.add (pq * 8)).off + 1, none⟩ = some (.string pn) from
              ⟨(hb.cell (p := ⟨gx', 2, none⟩) hszc).trans q2, (hb.cell (p := ⟨gx', 3, none⟩) hszc).trans q3, (hb.cell (p := ⟨gx', 4, none⟩) hszc).trans q4, (hb.cell (p := ⟨gx', 5, none⟩) hszc).trans q5, (hb.cell (p := ⟨gx', 6, none⟩) hszc).trans q6, (hb.cell (p := ⟨(ad.add (pq * 8)).block, (ad.add (pq * 8)).off + 1, none⟩) hadc).trans cy⟩))
            have HQ := Lib.hid (And.intro hd0 q7)
            have HSZ := Lib.hid hszc
            have hk0' : (0 : Int) < (k : Int) := by omega
            have hs3 : (sq : Int) < 3 := by omega
            have HHH := Lib.hid (And.intro hkd0 hkx)
            have HsS := Lib.hid hsS
            clear hd0 q7 hpn hsS CY hy hc0 hc1 HBW HBA ho1 HY HMID hsd hp0 hp1 hpl hkd0 hkx hk0 hszc hadc hsz
            go_upto_region 11 with fail
            go_cut [5] (fun v X => v = .string (o1 ++ ((((((((⟨#[32]⟩ ++ pn) ++ sS) ++ ⟨#[32]⟩) ++ itoB lx) ++ ⟨#[32]⟩) ++ itoB gx) ++ ⟨#[32]⟩) ++ itoB cx)) ∧ Hid (Below wc.heap.size wc X))
            case first =>
              obtain ⟨q0, e0⟩ : ∃ x, x = wc.drew := ⟨_, rfl⟩
              have K0 := Lib.hid (show Below wc.heap.size wc q0 from by rw [e0]; exact go_dr (Below.refl _ _))
              have F0 := KP.out q0 K0.out
              have HE0 := Lib.hid e0
              clear e0
              refine AnyT.begin_at tlN (fun X => X.cell? ⟨gx', 2, none⟩ = some (.int .i64 (pq : Int)) ∧ X.cell? ⟨gx', 3, none⟩ = some (.int .i64 (sq : Int)) ∧ X.cell? ⟨gx', 4, none⟩ = some (.int .i64 lx) ∧ X.cell? ⟨gx', 5, none⟩ = some (.int .i64 gx) ∧ X.cell? ⟨gx', 6, none⟩ = some (.int .i64 cx) ∧ X.cell? ⟨(ad.add (pq * 8)).block, (ad.add (pq * 8)).off + 1, none⟩ = some (.string pn)) (by kernel_rfl) HE0.out F0 ?_
              clear F0
              intro F0
              refine AnyT.takeD (i := 0) (d := some 36) (v := .string o1) rfl rfl (by kernel_rfl) (by kernel_rfl) (by kernel_rfl) (by kernel_rfl) (fun _ _ _ h => h) (Or.inl ⟨by rfl, fun wz _ => by go_simp⟩) F0 ?_
              simp only [Act.put, List.setIfInBounds_toArray, List.set_cons_zero, List.set_cons_succ]
              refine AnyT.takeD (i := 1) (d := some 37) (v := .slice (some ad) L c) rfl rfl (by kernel_rfl) (by kernel_rfl) (by kernel_rfl) (by kernel_rfl) (fun _ _ _ h => h) (Or.inl ⟨by rfl, fun wz _ => by go_simp⟩) F0 ?_
              simp only [Act.put, List.setIfInBounds_toArray, List.set_cons_zero, List.set_cons_succ]
              refine AnyT.takeD (i := 2) (d := some 38) (v := .pointer (some ⟨gx', 2, none⟩)) rfl rfl (by kernel_rfl) (by kernel_rfl) (by kernel_rfl) (by kernel_rfl) (fun _ _ _ h => h) (Or.inl ⟨by rfl, fun wz _ => by go_simp⟩) F0 ?_
              simp only [Act.put, List.setIfInBounds_toArray, List.set_cons_zero, List.set_cons_succ]
              refine AnyT.takeD (i := 3) (d := some 39) (v := .int .i64 (pq : Int)) rfl rfl (by kernel_rfl) (by kernel_rfl) (by kernel_rfl) (by kernel_rfl) (fun _ _ _ h => h) (Or.inl ⟨by rfl, fun wz hz => by obtain ⟨z2, z3, z4, z5, z6, zn⟩ := hz; go_simp⟩) F0 ?_
              simp only [Act.put, List.setIfInBounds_toArray, List.set_cons_zero, List.set_cons_succ]
              refine AnyT.takeD (i := 4) (d := some 40) (v := .pointer (some (ad.add (pq * 8)))) rfl rfl (by kernel_rfl) (by kernel_rfl) (by kernel_rfl) (by kernel_rfl) (fun _ _ _ h => h) (Or.inl ⟨by rfl, fun wz _ => by go_simp⟩) F0 ?_
              simp only [Act.put, List.setIfInBounds_toArray, List.set_cons_zero, List.set_cons_succ]
              refine AnyT.takeD (i := 5) (d := some 41) (v := .pointer (some ⟨(ad.add (pq * 8)).block, (ad.add (pq * 8)).off + 1, none⟩)) rfl rfl (by kernel_rfl) (by kernel_rfl) (by kernel_rfl) (by kernel_rfl) (fun _ _ _ h => h) (Or.inl ⟨by rfl, fun wz _ => by go_simp⟩) F0 ?_
              simp only [Act.put, List.setIfInBounds_toArray, List.set_cons_zero, List.set_cons_succ]
              refine AnyT.takeD (i := 6) (d := some 42) (v := .string pn) rfl rfl (by kernel_rfl) (by kernel_rfl) (by kernel_rfl) (by kernel_rfl) (fun _ _ _ h => h) (Or.inl ⟨by rfl, fun wz hz => by obtain ⟨z2, z3, z4, z5, z6, zn⟩ := hz; go_simp⟩) F0 ?_
              simp only [Act.put, List.setIfInBounds_toArray, List.set_cons_zero, List.set_cons_succ]
              refine AnyT.takeD (i := 7) (d := some 43) (v := .string (⟨#[32]⟩ ++ pn)) rfl rfl (by kernel_rfl) (by kernel_rfl) (by kernel_rfl) (by kernel_rfl) (fun _ _ _ h => h) (Or.inl ⟨by rfl, fun wz _ => by go_simp⟩) F0 ?_
              simp only [Act.put, List.setIfInBounds_toArray, List.set_cons_zero, List.set_cons_succ]
              refine AnyT.takeD (i := 9) (d := some 45) (v := .pointer (some ⟨gx', 3, none⟩)) rfl rfl (by kernel_rfl) (by kernel_rfl) (by kernel_rfl) (by kernel_rfl) (fun _ _ _ h => h) (Or.inl ⟨by rfl, fun wz _ => by go_simp⟩) F0 ?_
              simp only [Act.put, List.setIfInBounds_toArray, List.set_cons_zero, List.set_cons_succ]
              refine AnyT.takeD (i := 10) (d := some 46) (v := .int .i64 (sq : Int)) rfl rfl (by kernel_rfl) (by kernel_rfl) (by kernel_rfl) (by kernel_rfl) (fun _ _ _ h => h) (Or.inl ⟨by rfl, fun wz hz => by obtain ⟨z2, z3, z4, z5, z6, zn⟩ := hz; go_simp⟩) F0 ?_
              simp only [Act.put, List.setIfInBounds_toArray, List.set_cons_zero, List.set_cons_succ]
              refine AnyT.takeD (i := 15) (d := some 51) (v := .pointer (some ⟨gx', 4, none⟩)) rfl rfl (by kernel_rfl) (by kernel_rfl) (by kernel_rfl) (by kernel_rfl) (fun _ _ _ h => h) (Or.inl ⟨by rfl, fun wz _ => by go_simp⟩) F0 ?_
              simp only [Act.put, List.setIfInBounds_toArray, List.set_cons_zero, List.set_cons_succ]
              refine AnyT.takeD (i := 16) (d := some 52) (v := .int .i64 lx) rfl rfl (by kernel_rfl) (by kernel_rfl) (by kernel_rfl) (by kernel_rfl) (fun _ _ _ h => h) (Or.inl ⟨by rfl, fun wz hz => by obtain ⟨z2, z3, z4, z5, z6, zn⟩ := hz; go_simp⟩) F0 ?_
              simp only [Act.put, List.setIfInBounds_toArray, List.set_cons_zero, List.set_cons_succ]
              refine AnyT.takeD (i := 20) (d := some 56) (v := .pointer (some ⟨gx', 5, none⟩)) rfl rfl (by kernel_rfl) (by kernel_rfl) (by kernel_rfl) (by kernel_rfl) (fun _ _ _ h => h) (Or.inl ⟨by rfl, fun wz _ => by go_simp⟩) F0 ?_
              simp only [Act.put, List.setIfInBounds_toArray, List.set_cons_zero, List.set_cons_succ]
              refine AnyT.takeD (i := 21) (d := some 57) (v := .int .i64 gx) rfl rfl (by kernel_rfl) (by kernel_rfl) (by kernel_rfl) (by kernel_rfl) (fun _ _ _ h => h) (Or.inl ⟨by rfl, fun wz hz => by obtain ⟨z2, z3, z4, z5, z6, zn⟩ := hz; go_simp⟩) F0 ?_
              simp only [Act.put, List.setIfInBounds_toArray, List.set_cons_zero, List.set_cons_succ]
              refine AnyT.takeD (i := 25) (d := some 61) (v := .pointer (some ⟨gx', 6, none⟩)) rfl rfl (by kernel_rfl) (by kernel_rfl) (by kernel_rfl) (by kernel_rfl) (fun _ _ _ h => h) (Or.inl ⟨by rfl, fun wz _ => by go_simp⟩) F0 ?_
              simp only [Act.put, List.setIfInBounds_toArray, List.set_cons_zero, List.set_cons_succ]
              refine AnyT.takeD (i := 26) (d := some 62) (v := .int .i64 cx) rfl rfl (by kernel_rfl) (by kernel_rfl) (by kernel_rfl) (by kernel_rfl) (fun _ _ _ h => h) (Or.inl ⟨by rfl, fun wz hz => by obtain ⟨z2, z3, z4, z5, z6, zn⟩ := hz; go_simp⟩) F0 ?_
              simp only [Act.put, List.setIfInBounds_toArray, List.set_cons_zero, List.set_cons_succ]
              refine AnyT.branch (rs := [8, 17]) (by kernel_rfl) (by simp) ?_
              refine (all_cons (?_) (all_cons (?_) all_nil))
              · refine stepLit (i := 8) (dd := some 44) (T := 9) rfl rfl rfl (by go_simp) (fun X hX => KP.out X (go_on K0.out hX)) (fun q1 b1 e1 B1 c1 => ?_)
                have K1 := Lib.hid (go_on K0.out B1)
                have hl1 := c1 sq hsq
                rw [← HsS.out] at hl1
                have LT1 := Lib.hid (lt_of_cell hl1)
                have P1 := Lib.hid (fun (X : World) (hX : Below q1.heap.size q1 X) => (hX.cell (p := ⟨b1, sq, none⟩) LT1.out).trans hl1)
                have M1 := Lib.hid (KP.out q1 K1.out)
                clear B1 c1 e1 F0
                simp only [Act.put, List.setIfInBounds_toArray, List.set_cons_zero, List.set_cons_succ]
                refine AnyT.more (S2 := fun X => X.cell? ⟨gx', 2, none⟩ = some (.int .i64 (pq : Int)) ∧ X.cell? ⟨gx', 3, none⟩ = some (.int .i64 (sq : Int)) ∧ X.cell? ⟨gx', 4, none⟩ = some (.int .i64 lx) ∧ X.cell? ⟨gx', 5, none⟩ = some (.int .i64 gx) ∧ X.cell? ⟨gx', 6, none⟩ = some (.int .i64 cx) ∧ X.cell? ⟨(ad.add (pq * 8)).block, (ad.add (pq * 8)).off + 1, none⟩ = some (.string pn) ∧ X.cell? ⟨b1, sq, none⟩ = some (.string sS)) (fun X h => ⟨h.1, h.2.1, h.2.2.1, h.2.2.2.1, h.2.2.2.2.1, h.2.2.2.2.2.1⟩) _ _ _ _ ?_
                have F1 := seven M1.out hl1
                clear hl1 M1
                refine AnyT.takeD (i := 11) (d := some 47) (v := .pointer (some ⟨b1, sq, none⟩)) rfl rfl (by kernel_rfl) (by kernel_rfl) (by kernel_rfl) (by kernel_rfl) (fun _ _ _ h => h) (Or.inl ⟨by rfl, fun wz _ => by go_simp⟩) F1 ?_
                simp only [Act.put, List.setIfInBounds_toArray, List.set_cons_zero, List.set_cons_succ]
                refine AnyT.takeD (i := 12) (d := some 48) (v := .string sS) rfl rfl (by kernel_rfl) (by kernel_rfl) (by kernel_rfl) (by kernel_rfl) (fun _ _ _ h => h) (Or.inl ⟨by rfl, fun wz hz => by obtain ⟨z2, z3, z4, z5, z6, zn, zl⟩ := hz; go_simp⟩) F1 ?_
                simp only [Act.put, List.setIfInBounds_toArray, List.set_cons_zero, List.set_cons_succ]
                refine AnyT.takeD (i := 13) (d := some 49) (v := .string ((⟨#[32]⟩ ++ pn) ++ sS)) rfl rfl (by kernel_rfl) (by kernel_rfl) (by kernel_rfl) (by kernel_rfl) (fun _ _ _ h => h) (Or.inl ⟨by rfl, fun wz _ => by go_simp⟩) F1 ?_
                simp only [Act.put, List.setIfInBounds_toArray, List.set_cons_zero, List.set_cons_succ]
                refine AnyT.takeD (i := 14) (d := some 50) (v := .string (((⟨#[32]⟩ ++ pn) ++ sS) ++ ⟨#[32]⟩)) rfl rfl (by kernel_rfl) (by kernel_rfl) (by kernel_rfl) (by kernel_rfl) (fun _ _ _ h => h) (Or.inl ⟨by rfl, fun wz _ => by go_simp⟩) F1 ?_
                simp only [Act.put, List.setIfInBounds_toArray, List.set_cons_zero, List.set_cons_succ]
                refine AnyT.branch (rs := [17]) (by kernel_rfl) (by simp) ?_
                refine (all_cons (?_) all_nil)
                refine stepDec (i := 17) (dd := some 53) (n := lx) rfl rfl rfl (by go_simp) (HDEC.out lx _ (Or.inl rfl)) (fun X hX => seven (KP.out X (go_on K1.out hX)) (P1.out X (by first | exact hX | exact go_on BL_q1.out hX))) (fun q2 B2 => ?_)
                have K2 := Lib.hid (go_on K1.out B2)
                have BL_q2 := Lib.hid (show Below q1.heap.size q1 q2 from by first | exact B2 | exact go_on BL_q1.out B2)
                have F2 := seven (KP.out q2 K2.out) (P1.out q2 BL_q2.out)
                clear B2 F1
                simp only [Act.put, List.setIfInBounds_toArray, List.set_cons_zero, List.set_cons_succ]
                refine AnyT.takeD (i := 18) (d := some 54) (v := .string ((((⟨#[32]⟩ ++ pn) ++ sS) ++ ⟨#[32]⟩) ++ itoB lx)) rfl rfl (by kernel_rfl) (by kernel_rfl) (by kernel_rfl) (by kernel_rfl) (fun _ _ _ h => h) (Or.inl ⟨by rfl, fun wz _ => by go_simp⟩) F2 ?_
                simp only [Act.put, List.setIfInBounds_toArray, List.set_cons_zero, List.set_cons_succ]
                refine AnyT.takeD (i := 19) (d := some 55) (v := .string (((((⟨#[32]⟩ ++ pn) ++ sS) ++ ⟨#[32]⟩) ++ itoB lx) ++ ⟨#[32]⟩)) rfl rfl (by kernel_rfl) (by kernel_rfl) (by kernel_rfl) (by kernel_rfl) (fun _ _ _ h => h) (Or.inl ⟨by rfl, fun wz _ => by go_simp⟩) F2 ?_
                simp only [Act.put, List.setIfInBounds_toArray, List.set_cons_zero, List.set_cons_succ]
                refine AnyT.branch (rs := [22]) (by kernel_rfl) (by simp) ?_
                refine (all_cons (?_) all_nil)
                refine stepDec (i := 22) (dd := some 58) (n := gx) rfl rfl rfl (by go_simp) (HDEC.out gx _ (Or.inr (Or.inl rfl))) (fun X hX => seven (KP.out X (go_on K2.out hX)) (P1.out X (by first | exact hX | exact go_on BL_q2.out hX))) (fun q3 B3 => ?_)
                have K3 := Lib.hid (go_on K2.out B3)
                have BL_q3 := Lib.hid (show Below q1.heap.size q1 q3 from by first | exact B3 | exact go_on BL_q2.out B3)
                have F3 := seven (KP.out q3 K3.out) (P1.out q3 BL_q3.out)
                clear B3 F2
                simp only [Act.put, List.setIfInBounds_toArray, List.set_cons_zero, List.set_cons_succ]
                refine AnyT.takeD (i := 23) (d := some 59) (v := .string ((((((⟨#[32]⟩ ++ pn) ++ sS) ++ ⟨#[32]⟩) ++ itoB lx) ++ ⟨#[32]⟩) ++ itoB gx)) rfl rfl (by kernel_rfl) (by kernel_rfl) (by kernel_rfl) (by kernel_rfl) (fun _ _ _ h => h) (Or.inl ⟨by rfl, fun wz _ => by go_simp⟩) F3 ?_
                simp only [Act.put, List.setIfInBounds_toArray, List.set_cons_zero, List.set_cons_succ]
                refine AnyT.takeD (i := 24) (d := some 60) (v := .string (((((((⟨#[32]⟩ ++ pn) ++ sS) ++ ⟨#[32]⟩) ++ itoB lx) ++ ⟨#[32]⟩) ++ itoB gx) ++ ⟨#[32]⟩)) rfl rfl (by kernel_rfl) (by kernel_rfl) (by kernel_rfl) (by kernel_rfl) (fun _ _ _ h => h) (Or.inl ⟨by rfl, fun wz _ => by go_simp⟩) F3 ?_
                simp only [Act.put, List.setIfInBounds_toArray, List.set_cons_zero, List.set_cons_succ]
                refine AnyT.branch (rs := [27]) (by kernel_rfl) (by simp) ?_
                refine (all_cons (?_) all_nil)
                refine stepDec (i := 27) (dd := some 63) (n := cx) rfl rfl rfl (by go_simp) (HDEC.out cx _ (Or.inr (Or.inr (Or.inl rfl)))) (fun X hX => seven (KP.out X (go_on K3.out hX)) (P1.out X (by first | exact hX | exact go_on BL_q3.out hX))) (fun q4 B4 => ?_)
                have K4 := Lib.hid (go_on K3.out B4)
                have BL_q4 := Lib.hid (show Below q1.heap.size q1 q4 from by first | exact B4 | exact go_on BL_q3.out B4)
                have F4 := seven (KP.out q4 K4.out) (P1.out q4 BL_q4.out)
                clear B4 F3
                simp only [Act.put, List.setIfInBounds_toArray, List.set_cons_zero, List.set_cons_succ]
                refine AnyT.takeD (i := 28) (d := some 64) (v := .string ((((((((⟨#[32]⟩ ++ pn) ++ sS) ++ ⟨#[32]⟩) ++ itoB lx) ++ ⟨#[32]⟩) ++ itoB gx) ++ ⟨#[32]⟩) ++ itoB cx)) rfl rfl (by kernel_rfl) (by kernel_rfl) (by kernel_rfl) (by kernel_rfl) (fun _ _ _ h => h) (Or.inl ⟨by rfl, fun wz _ => by go_simp⟩) F4 ?_
                simp only [Act.put, List.setIfInBounds_toArray, List.set_cons_zero, List.set_cons_succ]
                refine AnyT.takeD (i := 29) (d := some 65) (v := .string (o1 ++ ((((((((⟨#[32]⟩ ++ pn) ++ sS) ++ ⟨#[32]⟩) ++ itoB lx) ++ ⟨#[32]⟩) ++ itoB gx) ++ ⟨#[32]⟩) ++ itoB cx))) rfl rfl (by kernel_rfl) (by kernel_rfl) (by kernel_rfl) (by kernel_rfl) (fun _ _ _ h => h) (Or.inl ⟨by rfl, fun wz _ => by go_simp⟩) F4 ?_
                simp only [Act.put, List.setIfInBounds_toArray, List.set_cons_zero, List.set_cons_succ]
                refine AnyT.takeD (i := 30) (d := some 5) (v := .string (o1 ++ ((((((((⟨#[32]⟩ ++ pn) ++ sS) ++ ⟨#[32]⟩) ++ itoB lx) ++ ⟨#[32]⟩) ++ itoB gx) ++ ⟨#[32]⟩) ++ itoB cx))) rfl rfl (by kernel_rfl) (by kernel_rfl) (by kernel_rfl) (by kernel_rfl) (fun _ _ _ h => h) (Or.inl ⟨by rfl, fun wz _ => by go_simp⟩) F4 ?_
                simp only [Act.put, List.setIfInBounds_toArray, List.set_cons_zero, List.set_cons_succ]
                refine AnyT.done_ (by kernel_rfl) ?_ _
                clear F4
                go_wp2_with fail
                go_meet
                case rel => exact ⟨rfl, K4⟩
              · refine stepDec (i := 17) (dd := some 53) (n := lx) rfl rfl rfl (by go_simp) (HDEC.out lx _ (Or.inl rfl)) (fun X hX => KP.out X (go_on K0.out hX)) (fun q5 B5 => ?_)
                have K5 := Lib.hid (go_on K0.out B5)
                have F5 := KP.out q5 K5.out
                clear B5 F0
                simp only [Act.put, List.setIfInBounds_toArray, List.set_cons_zero, List.set_cons_succ]
                refine AnyT.branch (rs := [8, 22]) (by kernel_rfl) (by simp) ?_
                refine (all_cons (?_) (all_cons (?_) all_nil))
                · refine stepLit (i := 8) (dd := some 44) (T := 9) rfl rfl rfl (by go_simp) (fun X hX => KP.out X (go_on K5.out hX)) (fun q6 b6 e6 B6 c6 => ?_)
                  have K6 := Lib.hid (go_on K5.out B6)
                  have hl6 := c6 sq hsq
                  rw [← HsS.out] at hl6
                  have LT6 := Lib.hid (lt_of_cell hl6)
                  have P6 := Lib.hid (fun (X : World) (hX : Below q6.heap.size q6 X) => (hX.cell (p := ⟨b6, sq, none⟩) LT6.out).trans hl6)
                  have M6 := Lib.hid (KP.out q6 K6.out)
                  clear B6 c6 e6 F5
                  simp only [Act.put, List.setIfInBounds_toArray, List.set_cons_zero, List.set_cons_succ]
                  refine AnyT.more (S2 := fun X => X.cell? ⟨gx', 2, none⟩ = some (.int .i64 (pq : Int)) ∧ X.cell? ⟨gx', 3, none⟩ = some (.int .i64 (sq : Int)) ∧ X.cell? ⟨gx', 4, none⟩ = some (.int .i64 lx) ∧ X.cell? ⟨gx', 5, none⟩ = some (.int .i64 gx) ∧ X.cell? ⟨gx', 6, none⟩ = some (.int .i64 cx) ∧ X.cell? ⟨(ad.add (pq * 8)).block, (ad.add (pq * 8)).off + 1, none⟩ = some (.string pn) ∧ X.cell? ⟨b6, sq, none⟩ = some (.string sS)) (fun X h => ⟨h.1, h.2.1, h.2.2.1, h.2.2.2.1, h.2.2.2.2.1, h.2.2.2.2.2.1⟩) _ _ _ _ ?_
                  have F6 := seven M6.out hl6
                  clear hl6 M6
                  refine AnyT.takeD (i := 11) (d := some 47) (v := .pointer (some ⟨b6, sq, none⟩)) rfl rfl (by kernel_rfl) (by kernel_rfl) (by kernel_rfl) (by kernel_rfl) (fun _ _ _ h => h) (Or.inl ⟨by rfl, fun wz _ => by go_simp⟩) F6 ?_
                  simp only [Act.put, List.setIfInBounds_toArray, List.set_cons_zero, List.set_cons_succ]
                  refine AnyT.takeD (i := 12) (d := some 48) (v := .string sS) rfl rfl (by kernel_rfl) (by kernel_rfl) (by kernel_rfl) (by kernel_rfl) (fun _ _ _ h => h) (Or.inl ⟨by rfl, fun wz hz => by obtain ⟨z2, z3, z4, z5, z6, zn, zl⟩ := hz; go_simp⟩) F6 ?_
                  simp only [Act.put, List.setIfInBounds_toArray, List.set_cons_zero, List.set_cons_succ]
                  refine AnyT.takeD (i := 13) (d := some 49) (v := .string ((⟨#[32]⟩ ++ pn) ++ sS)) rfl rfl (by kernel_rfl) (by kernel_rfl) (by kernel_rfl) (by kernel_rfl) (fun _ _ _ h => h) (Or.inl ⟨by rfl, fun wz _ => by go_simp⟩) F6 ?_
                  simp only [Act.put, List.setIfInBounds_toArray, List.set_cons_zero, List.set_cons_succ]
                  refine AnyT.takeD (i := 14) (d := some 50) (v := .string (((⟨#[32]⟩ ++ pn) ++ sS) ++ ⟨#[32]⟩)) rfl rfl (by kernel_rfl) (by kernel_rfl) (by kernel_rfl) (by kernel_rfl) (fun _ _ _ h => h) (Or.inl ⟨by rfl, fun wz _ => by go_simp⟩) F6 ?_
                  simp only [Act.put, List.setIfInBounds_toArray, List.set_cons_zero, List.set_cons_succ]
                  refine AnyT.takeD (i := 18) (d := some 54) (v := .string ((((⟨#[32]⟩ ++ pn) ++ sS) ++ ⟨#[32]⟩) ++ itoB lx)) rfl rfl (by kernel_rfl) (by kernel_rfl) (by kernel_rfl) (by kernel_rfl) (fun _ _ _ h => h) (Or.inl ⟨by rfl, fun wz _ => by go_simp⟩) F6 ?_
                  simp only [Act.put, List.setIfInBounds_toArray, List.set_cons_zero, List.set_cons_succ]
                  refine AnyT.takeD (i := 19) (d := some 55) (v := .string (((((⟨#[32]⟩ ++ pn) ++ sS) ++ ⟨#[32]⟩) ++ itoB lx) ++ ⟨#[32]⟩)) rfl rfl (by kernel_rfl) (by kernel_rfl) (by kernel_rfl) (by kernel_rfl) (fun _ _ _ h => h) (Or.inl ⟨by rfl, fun wz _ => by go_simp⟩) F6 ?_
                  simp only [Act.put, List.setIfInBounds_toArray, List.set_cons_zero, List.set_cons_succ]
                  refine AnyT.branch (rs := [22]) (by kernel_rfl) (by simp) ?_
                  refine (all_cons (?_) all_nil)
                  refine stepDec (i := 22) (dd := some 58) (n := gx) rfl rfl rfl (by go_simp) (HDEC.out gx _ (Or.inr (Or.inl rfl))) (fun X hX => seven (KP.out X (go_on K6.out hX)) (P6.out X (by first | exact hX | exact go_on BL_q6.out hX))) (fun q7 B7 => ?_)
                  have K7 := Lib.hid (go_on K6.out B7)
                  have BL_q7 := Lib.hid (show Below q6.heap.size q6 q7 from by first | exact B7 | exact go_on BL_q6.out B7)
                  have F7 := seven (KP.out q7 K7.out) (P6.out q7 BL_q7.out)
                  clear B7 F6
                  simp only [Act.put, List.setIfInBounds_toArray, List.set_cons_zero, List.set_cons_succ]
                  refine AnyT.takeD (i := 23) (d := some 59) (v := .string ((((((⟨#[32]⟩ ++ pn) ++ sS) ++ ⟨#[32]⟩) ++ itoB lx) ++ ⟨#[32]⟩) ++ itoB gx)) rfl rfl (by kernel_rfl) (by kernel_rfl) (by kernel_rfl) (by kernel_rfl) (fun _ _ _ h => h) (Or.inl ⟨by rfl, fun wz _ => by go_simp⟩) F7 ?_
                  simp only [Act.put, List.setIfInBounds_toArray, List.set_cons_zero, List.set_cons_succ]
                  refine AnyT.takeD (i := 24) (d := some 60) (v := .string (((((((⟨#[32]⟩ ++ pn) ++ sS) ++ ⟨#[32]⟩) ++ itoB lx) ++ ⟨#[32]⟩) ++ itoB gx) ++ ⟨#[32]⟩)) rfl rfl (by kernel_rfl) (by kernel_rfl) (by kernel_rfl) (by kernel_rfl) (fun _ _ _ h => h) (Or.inl ⟨by rfl, fun wz _ => by go_simp⟩) F7 ?_
                  simp only [Act.put, List.setIfInBounds_toArray, List.set_cons_zero, List.set_cons_succ]
                  refine AnyT.branch (rs := [27]) (by kernel_rfl) (by simp) ?_
                  refine (all_cons (?_) all_nil)
                  refine stepDec (i := 27) (dd := some 63) (n := cx) rfl rfl rfl (by go_simp) (HDEC.out cx _ (Or.inr (Or.inr (Or.inl rfl)))) (fun X hX => seven (KP.out X (go_on K7.out hX)) (P6.out X (by first | exact hX | exact go_on BL_q7.out hX))) (fun q8 B8 => ?_)
                  have K8 := Lib.hid (go_on K7.out B8)
                  have BL_q8 := Lib.hid (show Below q6.heap.size q6 q8 from by first | exact B8 | exact go_on BL_q7.out B8)
                  have F8 := seven (KP.out q8 K8.out) (P6.out q8 BL_q8.out)
                  clear B8 F7
                  simp only [Act.put, List.setIfInBounds_toArray, List.set_cons_zero, List.set_cons_succ]
                  refine AnyT.takeD (i := 28) (d := some 64) (v := .string ((((((((⟨#[32]⟩ ++ pn) ++ sS) ++ ⟨#[32]⟩) ++ itoB lx) ++ ⟨#[32]⟩) ++ itoB gx) ++ ⟨#[32]⟩) ++ itoB cx)) rfl rfl (by kernel_rfl) (by kernel_rfl) (by kernel_rfl) (by kernel_rfl) (fun _ _ _ h => h) (Or.inl ⟨by rfl, fun wz _ => by go_simp⟩) F8 ?_
                  simp only [Act.put, List.setIfInBounds_toArray, List.set_cons_zero, List.set_cons_succ]
                  refine AnyT.takeD (i := 29) (d := some 65) (v := .string (o1 ++ ((((((((⟨#[32]⟩ ++ pn) ++ sS) ++ ⟨#[32]⟩) ++ itoB lx) ++ ⟨#[32]⟩) ++ itoB gx) ++ ⟨#[32]⟩) ++ itoB cx))) rfl rfl (by kernel_rfl) (by kernel_rfl) (by kernel_rfl) (by kernel_rfl) (fun _ _ _ h => h) (Or.inl ⟨by rfl, fun wz _ => by go_simp⟩) F8 ?_
                  simp only [Act.put, List.setIfInBounds_toArray, List.set_cons_zero, List.set_cons_succ]
                  refine AnyT.takeD (i := 30) (d := some 5) (v := .string (o1 ++ ((((((((⟨#[32]⟩ ++ pn) ++ sS) ++ ⟨#[32]⟩) ++ itoB lx) ++ ⟨#[32]⟩) ++ itoB gx) ++ ⟨#[32]⟩) ++ itoB cx))) rfl rfl (by kernel_rfl) (by kernel_rfl) (by kernel_rfl) (by kernel_rfl) (fun _ _ _ h => h) (Or.inl ⟨by rfl, fun wz _ => by go_simp⟩) F8 ?_
                  simp only [Act.put, List.setIfInBounds_toArray, List.set_cons_zero, List.set_cons_succ]
                  refine AnyT.done_ (by kernel_rfl) ?_ _
                  clear F8
                  go_wp2_with fail
                  go_meet
                  case rel => exact ⟨rfl, K8⟩
                · refine stepDec (i := 22) (dd := some 58) (n := gx) rfl rfl rfl (by go_simp) (HDEC.out gx _ (Or.inr (Or.inl rfl))) (fun X hX => KP.out X (go_on K5.out hX)) (fun q9 B9 => ?_)
                  have K9 := Lib.hid (go_on K5.out B9)
                  have F9 := KP.out q9 K9.out
                  clear B9 F5
                  simp only [Act.put, List.setIfInBounds_toArray, List.set_cons_zero, List.set_cons_succ]
                  refine AnyT.branch (rs := [8, 27]) (by kernel_rfl) (by simp) ?_
                  refine (all_cons (?_) (all_cons (?_) all_nil))
                  · refine stepLit (i := 8) (dd := some 44) (T := 9) rfl rfl rfl (by go_simp) (fun X hX => KP.out X (go_on K9.out hX)) (fun q10 b10 e10 B10 c10 => ?_)
                    have K10 := Lib.hid (go_on K9.out B10)
                    have hl10 := c10 sq hsq
                    rw [← HsS.out] at hl10
                    have LT10 := Lib.hid (lt_of_cell hl10)
                    have P10 := Lib.hid (fun (X : World) (hX : Below q10.heap.size q10 X) => (hX.cell (p := ⟨b10, sq, none⟩) LT10.out).trans hl10)
                    have M10 := Lib.hid (KP.out q10 K10.out)
                    clear B10 c10 e10 F9
                    simp only [Act.put, List.setIfInBounds_toArray, List.set_cons_zero, List.set_cons_succ]
                    refine AnyT.more (S2 := fun X => X.cell? ⟨gx', 2, none⟩ = some (.int .i64 (pq : Int)) ∧ X.cell? ⟨gx', 3, none⟩ = some (.int .i64 (sq : Int)) ∧ X.cell? ⟨gx', 4, none⟩ = some (.int .i64 lx) ∧ X.cell? ⟨gx', 5, none⟩ = some (.int .i64 gx) ∧ X.cell? ⟨gx', 6, none⟩ = some (.int .i64 cx) ∧ X.cell? ⟨(ad.add (pq * 8)).block, (ad.add (pq * 8)).off + 1, none⟩ = some (.string pn) ∧ X.cell? ⟨b10, sq, none⟩ = some (.string sS)) (fun X h => ⟨h.1, h.2.1, h.2.2.1, h.2.2.2.1, h.2.2.2.2.1, h.2.2.2.2.2.1⟩) _ _ _ _ ?_
                    have F10 := seven M10.out hl10
                    clear hl10 M10
                    refine AnyT.takeD (i := 11) (d := some 47) (v := .pointer (some ⟨b10, sq, none⟩)) rfl rfl (by kernel_rfl) (by kernel_rfl) (by kernel_rfl) (by kernel_rfl) (fun _ _ _ h => h) (Or.inl ⟨by rfl, fun wz _ => by go_simp⟩) F10 ?_
                    simp only [Act.put, List.setIfInBounds_toArray, List.set_cons_zero, List.set_cons_succ]
                    refine AnyT.takeD (i := 12) (d := some 48) (v := .string sS) rfl rfl (by kernel_rfl) (by kernel_rfl) (by kernel_rfl) (by kernel_rfl) (fun _ _ _ h => h) (Or.inl ⟨by rfl, fun wz hz => by obtain ⟨z2, z3, z4, z5, z6, zn, zl⟩ := hz; go_simp⟩) F10 ?_
                    simp only [Act.put, List.setIfInBounds_toArray, List.set_cons_zero, List.set_cons_succ]
                    refine AnyT.takeD (i := 13) (d := some 49) (v := .string ((⟨#[32]⟩ ++ pn) ++ sS)) rfl rfl (by kernel_rfl) (by kernel_rfl) (by kernel_rfl) (by kernel_rfl) (fun _ _ _ h => h) (Or.inl ⟨by rfl, fun wz _ => by go_simp⟩) F10 ?_
                    simp only [Act.put, List.setIfInBounds_toArray, List.set_cons_zero, List.set_cons_succ]
                    refine AnyT.takeD (i := 14) (d := some 50) (v := .string (((⟨#[32]⟩ ++ pn) ++ sS) ++ ⟨#[32]⟩)) rfl rfl (by kernel_rfl) (by kernel_rfl) (by kernel_rfl) (by kernel_rfl) (fun _ _ _ h => h) (Or.inl ⟨by rfl, fun wz _ => by go_simp⟩) F10 ?_
                    simp only [Act.put, List.setIfInBounds_toArray, List.set_cons_zero, List.set_cons_succ]
                    refine AnyT.takeD (i := 18) (d := some 54) (v := .string ((((⟨#[32]⟩ ++ pn) ++ sS) ++ ⟨#[32]⟩) ++ itoB lx)) rfl rfl (by kernel_rfl) (by kernel_rfl) (by kernel_rfl) (by kernel_rfl) (fun _ _ _ h => h) (Or.inl ⟨by rfl, fun wz _ => by go_simp⟩) F10 ?_
                    simp only [Act.put, List.setIfInBounds_toArray, List.set_cons_zero, List.set_cons_succ]
                    refine AnyT.takeD (i := 19) (d := some 55) (v := .string (((((⟨#[32]⟩ ++ pn) ++ sS) ++ ⟨#[32]⟩) ++ itoB lx) ++ ⟨#[32]⟩)) rfl rfl (by kernel_rfl) (by kernel_rfl) (by kernel_rfl) (by kernel_rfl) (fun _ _ _ h => h) (Or.inl ⟨by rfl, fun wz _ => by go_simp⟩) F10 ?_
                    simp only [Act.put, List.setIfInBounds_toArray, List.set_cons_zero, List.set_cons_succ]
                    refine AnyT.takeD (i := 23) (d := some 59) (v := .string ((((((⟨#[32]⟩ ++ pn) ++ sS) ++ ⟨#[32]⟩) ++ itoB lx) ++ ⟨#[32]⟩) ++ itoB gx)) rfl rfl (by kernel_rfl) (by kernel_rfl) (by kernel_rfl) (by kernel_rfl) (fun _ _ _ h => h) (Or.inl ⟨by rfl, fun wz _ => by go_simp⟩) F10 ?_
                    simp only [Act.put, List.setIfInBounds_toArray, List.set_cons_zero, List.set_cons_succ]
                    refine AnyT.takeD (i := 24) (d := some 60) (v := .string (((((((⟨#[32]⟩ ++ pn) ++ sS) ++ ⟨#[32]⟩) ++ itoB lx) ++ ⟨#[32]⟩) ++ itoB gx) ++ ⟨#[32]⟩)) rfl rfl (by kernel_rfl) (by kernel_rfl) (by kernel_rfl) (by kernel_rfl) (fun _ _ _ h => h) (Or.inl ⟨by rfl, fun wz _ => by go_simp⟩) F10 ?_
                    simp only [Act.put, List.setIfInBounds_toArray, List.set_cons_zero, List.set_cons_succ]
                    refine AnyT.branch (rs := [27]) (by kernel_rfl) (by simp) ?_
                    refine (all_cons (?_) all_nil)
                    refine stepDec (i := 27) (dd := some 63) (n := cx) rfl rfl rfl (by go_simp) (HDEC.out cx _ (Or.inr (Or.inr (Or.inl rfl)))) (fun X hX => seven (KP.out X (go_on K10.out hX)) (P10.out X (by first | exact hX | exact go_on BL_q10.out hX))) (fun q11 B11 => ?_)
                    have K11 := Lib.hid (go_on K10.out B11)
                    have BL_q11 := Lib.hid (show Below q10.heap.size q10 q11 from by first | exact B11 | exact go_on BL_q10.out B11)
                    have F11 := seven (KP.out q11 K11.out) (P10.out q11 BL_q11.out)
                    clear B11 F10
                    simp only [Act.put, List.setIfInBounds_toArray, List.set_cons_zero, List.set_cons_succ]
                    refine AnyT.takeD (i := 28) (d := some 64) (v := .string ((((((((⟨#[32]⟩ ++ pn) ++ sS) ++ ⟨#[32]⟩) ++ itoB lx) ++ ⟨#[32]⟩) ++ itoB gx) ++ ⟨#[32]⟩) ++ itoB cx)) rfl rfl (by kernel_rfl) (by kernel_rfl) (by kernel_rfl) (by kernel_rfl) (fun _ _ _ h => h) (Or.inl ⟨by rfl, fun wz _ => by go_simp⟩) F11 ?_
                    simp only [Act.put, List.setIfInBounds_toArray, List.set_cons_zero, List.set_cons_succ]
                    refine AnyT.takeD (i := 29) (d := some 65) (v := .string (o1 ++ ((((((((⟨#[32]⟩ ++ pn) ++ sS) ++ ⟨#[32]⟩) ++ itoB lx) ++ ⟨#[32]⟩) ++ itoB gx) ++ ⟨#[32]⟩) ++ itoB cx))) rfl rfl (by kernel_rfl) (by kernel_rfl) (by kernel_rfl) (by kernel_rfl) (fun _ _ _ h => h) (Or.inl ⟨by rfl, fun wz _ => by go_simp⟩) F11 ?_
                    simp only [Act.put, List.setIfInBounds_toArray, List.set_cons_zero, List.set_cons_succ]
                    refine AnyT.takeD (i := 30) (d := some 5) (v := .string (o1 ++ ((((((((⟨#[32]⟩ ++ pn) ++ sS) ++ ⟨#[32]⟩) ++ itoB lx) ++ ⟨#[32]⟩) ++ itoB gx) ++ ⟨#[32]⟩) ++ itoB cx))) rfl rfl (by kernel_rfl) (by kernel_rfl) (by kernel_rfl) (by kernel_rfl) (fun _ _ _ h => h) (Or.inl ⟨by rfl, fun wz _ => by go_simp⟩) F11 ?_
                    simp only [Act.put, List.setIfInBounds_toArray, List.set_cons_zero, List.set_cons_succ]
                    refine AnyT.done_ (by kernel_rfl) ?_ _
                    clear F11
                    go_wp2_with fail
                    go_meet
                    case rel => exact ⟨rfl, K11⟩
                  · refine stepDec (i := 27) (dd := some 63) (n := cx) rfl rfl rfl (by go_simp) (HDEC.out cx _ (Or.inr (Or.inr (Or.inl rfl)))) (fun X hX => KP.out X (go_on K9.out hX)) (fun q12 B12 => ?_)
                    have K12 := Lib.hid (go_on K9.out B12)
                    have F12 := KP.out q12 K12.out
                    clear B12 F9
                    simp only [Act.put, List.setIfInBounds_toArray, List.set_cons_zero, List.set_cons_succ]
                    refine AnyT.branch (rs := [8]) (by kernel_rfl) (by simp) ?_
                    refine (all_cons (?_) all_nil)
                    refine stepLit (i := 8) (dd := some 44) (T := 9) rfl rfl rfl (by go_simp) (fun X hX => KP.out X (go_on K12.out hX)) (fun q13 b13 e13 B13 c13 => ?_)
                    have K13 := Lib.hid (go_on K12.out B13)
                    have hl13 := c13 sq hsq
                    rw [← HsS.out] at hl13
                    have LT13 := Lib.hid (lt_of_cell hl13)
                    have P13 := Lib.hid (fun (X : World) (hX : Below q13.heap.size q13 X) => (hX.cell (p := ⟨b13, sq, none⟩) LT13.out).trans hl13)
                    have M13 := Lib.hid (KP.out q13 K13.out)
                    clear B13 c13 e13 F12
                    simp only [Act.put, List.setIfInBounds_toArray, List.set_cons_zero, List.set_cons_succ]
                    refine AnyT.more (S2 := fun X => X.cell? ⟨gx', 2, none⟩ = some (.int .i64 (pq : Int)) ∧ X.cell? ⟨gx', 3, none⟩ = some (.int .i64 (sq : Int)) ∧ X.cell? ⟨gx', 4, none⟩ = some (.int .i64 lx) ∧ X.cell? ⟨gx', 5, none⟩ = some (.int .i64 gx) ∧ X.cell? ⟨gx', 6, none⟩ = some (.int .i64 cx) ∧ X.cell? ⟨(ad.add (pq * 8)).block, (ad.add (pq * 8)).off + 1, none⟩ = some (.string pn) ∧ X.cell? ⟨b13, sq, none⟩ = some (.string sS)) (fun X h => ⟨h.1, h.2.1, h.2.2.1, h.2.2.2.1, h.2.2.2.2.1, h.2.2.2.2.2.1⟩) _ _ _ _ ?_
                    have F13 := seven M13.out hl13
                    clear hl13 M13
                    refine AnyT.takeD (i := 11) (d := some 47) (v := .pointer (some ⟨b13, sq, none⟩)) rfl rfl (by kernel_rfl) (by kernel_rfl) (by kernel_rfl) (by kernel_rfl) (fun _ _ _ h => h) (Or.inl ⟨by rfl, fun wz _ => by go_simp⟩) F13 ?_
                    simp only [Act.put, List.setIfInBounds_toArray, List.set_cons_zero, List.set_cons_succ]
                    refine AnyT.takeD (i := 12) (d := some 48) (v := .string sS) rfl rfl (by kernel_rfl) (by kernel_rfl) (by kernel_rfl) (by kernel_rfl) (fun _ _ _ h => h) (Or.inl ⟨by rfl, fun wz hz => by obtain ⟨z2, z3, z4, z5, z6, zn, zl⟩ := hz; go_simp⟩) F13 ?_
                    simp only [Act.put, List.setIfInBounds_toArray, List.set_cons_zero, List.set_cons_succ]
                    refine AnyT.takeD (i := 13) (d := some 49) (v := .string ((⟨#[32]⟩ ++ pn) ++ sS)) rfl rfl (by kernel_rfl) (by kernel_rfl) (by kernel_rfl) (by kernel_rfl) (fun _ _ _ h => h) (Or.inl ⟨by rfl, fun wz _ => by go_simp⟩) F13 ?_
                    simp only [Act.put, List.setIfInBounds_toArray, List.set_cons_zero, List.set_cons_succ]
                    refine AnyT.takeD (i := 14) (d := some 50) (v := .string (((⟨#[32]⟩ ++ pn) ++ sS) ++ ⟨#[32]⟩)) rfl rfl (by kernel_rfl) (by kernel_rfl) (by kernel_rfl) (by kernel_rfl) (fun _ _ _ h => h) (Or.inl ⟨by rfl, fun wz _ => by go_simp⟩) F13 ?_
                    simp only [Act.put, List.setIfInBounds_toArray, List.set_cons_zero, List.set_cons_succ]
                    refine AnyT.takeD (i := 18) (d := some 54) (v := .string ((((⟨#[32]⟩ ++ pn) ++ sS) ++ ⟨#[32]⟩) ++ itoB lx)) rfl rfl (by kernel_rfl) (by kernel_rfl) (by kernel_rfl) (by kernel_rfl) (fun _ _ _ h => h) (Or.inl ⟨by rfl, fun wz _ => by go_simp⟩) F13 ?_
                    simp only [Act.put, List.setIfInBounds_toArray, List.set_cons_zero, List.set_cons_succ]
                    refine AnyT.takeD (i := 19) (d := some 55) (v := .string (((((⟨#[32]⟩ ++ pn) ++ sS) ++ ⟨#[32]⟩) ++ itoB lx) ++ ⟨#[32]⟩)) rfl rfl (by kernel_rfl) (by kernel_rfl) (by kernel_rfl) (by kernel_rfl) (fun _ _ _ h => h) (Or.inl ⟨by rfl, fun wz _ => by go_simp⟩) F13 ?_
                    simp only [Act.put, List.setIfInBounds_toArray, List.set_cons_zero, List.set_cons_succ]
                    refine AnyT.takeD (i := 23) (d := some 59) (v := .string ((((((⟨#[32]⟩ ++ pn) ++ sS) ++ ⟨#[32]⟩) ++ itoB lx) ++ ⟨#[32]⟩) ++ itoB gx)) rfl rfl (by kernel_rfl) (by kernel_rfl) (by kernel_rfl) (by kernel_rfl) (fun _ _ _ h => h) (Or.inl ⟨by rfl, fun wz _ => by go_simp⟩) F13 ?_
                    simp only [Act.put, List.setIfInBounds_toArray, List.set_cons_zero, List.set_cons_succ]
                    refine AnyT.takeD (i := 24) (d := some 60) (v := .string (((((((⟨#[32]⟩ ++ pn) ++ sS) ++ ⟨#[32]⟩) ++ itoB lx) ++ ⟨#[32]⟩) ++ itoB gx) ++ ⟨#[32]⟩)) rfl rfl (by kernel_rfl) (by kernel_rfl) (by kernel_rfl) (by kernel_rfl) (fun _ _ _ h => h) (Or.inl ⟨by rfl, fun wz _ => by go_simp⟩) F13 ?_
                    simp only [Act.put, List.setIfInBounds_toArray, List.set_cons_zero, List.set_cons_succ]
                    refine AnyT.takeD (i := 28) (d := some 64) (v := .string ((((((((⟨#[32]⟩ ++ pn) ++ sS) ++ ⟨#[32]⟩) ++ itoB lx) ++ ⟨#[32]⟩) ++ itoB gx) ++ ⟨#[32]⟩) ++ itoB cx)) rfl rfl (by kernel_rfl) (by kernel_rfl) (by kernel_rfl) (by kernel_rfl) (fun _ _ _ h => h) (Or.inl ⟨by rfl, fun wz _ => by go_simp⟩) F13 ?_
                    simp only [Act.put, List.setIfInBounds_toArray, List.set_cons_zero, List.set_cons_succ]
                    refine AnyT.takeD (i := 29) (d := some 65) (v := .string (o1 ++ ((((((((⟨#[32]⟩ ++ pn) ++ sS) ++ ⟨#[32]⟩) ++ itoB lx) ++ ⟨#[32]⟩) ++ itoB gx) ++ ⟨#[32]⟩) ++ itoB cx))) rfl rfl (by kernel_rfl) (by kernel_rfl) (by kernel_rfl) (by kernel_rfl) (fun _ _ _ h => h) (Or.inl ⟨by rfl, fun wz _ => by go_simp⟩) F13 ?_
                    simp only [Act.put, List.setIfInBounds_toArray, List.set_cons_zero, List.set_cons_succ]
                    refine AnyT.takeD (i := 30) (d := some 5) (v := .string (o1 ++ ((((((((⟨#[32]⟩ ++ pn) ++ sS) ++ ⟨#[32]⟩) ++ itoB lx) ++ ⟨#[32]⟩) ++ itoB gx) ++ ⟨#[32]⟩) ++ itoB cx))) rfl rfl (by kernel_rfl) (by kernel_rfl) (by kernel_rfl) (by kernel_rfl) (fun _ _ _ h => h) (Or.inl ⟨by rfl, fun wz _ => by go_simp⟩) F13 ?_
                    simp only [Act.put, List.setIfInBounds_toArray, List.set_cons_zero, List.set_cons_succ]
                    refine AnyT.done_ (by kernel_rfl) ?_ _
                    clear F13
                    go_wp2_with fail
                    go_meet
                    case rel => exact ⟨rfl, K13⟩
            case rest =>
              obtain ⟨rfl, HBQ⟩ := hcut
              have e0 := (HBQ.out.cell (p := ⟨gx', 0, none⟩) HSZ.out).trans HQ.out.1
              have e7 := (HBQ.out.cell (p := ⟨gx', 7, none⟩) HSZ.out).trans HQ.out.2
              have HBY := Lib.hid (HBX.out.trans (HBQ.out.mono HBX.out.size))
              clear q2 q3 q4 q5 q6 cy
              obtain ⟨o2, ho2⟩ : ∃ s, s = o1 ++ ((((((((⟨#[32]⟩ ++ pn) ++ sS) ++ ⟨#[32]⟩) ++ itoB lx) ++ ⟨#[32]⟩) ++ itoB gx) ++ ⟨#[32]⟩) ++ itoB cx) := ⟨_, rfl⟩
              have ho2s : o2.size ≤ 41000 := by
                rw [ho2]
                simp only [ByteArray.size_append]
                show _ + (1 + _ + _ + 1 + _ + 1 + _ + 1 + _) ≤ _
                omega
              rw [← ho2] at HLN
              rw [← ho2]
              have hzw := itoB_size HO.out.n.2.2.2
              simp only at hzw
              clear ho2 g1 g2 g3 g4 g5 g6 g7 g8 g9 hlit HsS HBQ HBX HQ HSZ HCS KP
              by_cases h2 : kd = 2
              · have h2' : ((kd : Int) == 2) = true := by rw [beq_iff_eq]; omega
                have HL2 := Lib.hid (show bs (textE l (k + 1)) = (o2 ++ (⟨#[32]⟩ ++ itoB wx)) ++ ⟨#[10]⟩ from by rw [HLN.out, if_pos h2])
                have i1 : ¬ 9223372036854775807 < 1 + (itoB wx).size := by omega
                have i2 : ¬ 9223372036854775807 < o2.size + (1 + (itoB wx).size) := by omega
                have i3 : ¬ 9223372036854775807 < o2.size + (1 + (itoB wx).size) + 1 := by omega
                clear h2
                go_wp2_with fail
                refine (HDEC.out wx _ (Or.inr (Or.inr (Or.inr rfl)))).mono ?_
                rintro e wh ⟨rfl, kb⟩
                have HBZ := Lib.hid (HBY.out.trans (kb.mono HBY.out.size))
                clear kb e0 e7
                go_wp2_with fail
                go_roundw
                case rel => exact ⟨k + 1, by omega, by go_num, by rw [HL2.out], HBZ, HTL2⟩
                case measure => simp [intOf] <;> omega
              · have h2' : ((kd : Int) == 2) = false := by rw [beq_eq_false_iff_ne]; omega
                have HL2 := Lib.hid (show bs (textE l (k + 1)) = o2 ++ ⟨#[10]⟩ from by rw [HLN.out, if_neg h2])
                have i3 : ¬ 9223372036854775807 < o2.size + 1 := by omega
                clear h2
                go_wp2_with fail
                go_roundw
                case rel => exact ⟨k + 1, by omega, by go_num, by rw [HL2.out], HBY, HTL2⟩
                case measure => simp [intOf] <;> omega
      · obtain rfl : k = L := by omega
        have HFL := Lib.hid (show fmtE l = (bs (textE l k), 0) by rw [HFM.out, ← HL.out])
        go_wp2_with fail
        go_ret2
        exact ⟨by rw [HFL.out]; rfl, HB1.out.trans (B.out.mono HB1.out.size)⟩
  · have HFE := Lib.hid (show fmtE l = (⟨#[]⟩, ve) by rw [HVE.out]; unfold fmtE; rw [if_neg (by rw [← HVE.out]; exact h0)])
    have hne : (ve != 0) = true := bne_iff_ne.2 h0
    clear h0
    go_wp2_with fail
    go_ret2
    exact ⟨by rw [HFE.out]; rfl, HB1.out⟩
end Go.Proofs.YtgohocbkkhnmnaaGreatDoor
