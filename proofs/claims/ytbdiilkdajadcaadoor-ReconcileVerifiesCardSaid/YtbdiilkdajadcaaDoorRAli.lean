/-
  Stage 8: the program's Align.
-/
import Derived.Test.YtbdiilkdajadcaaDoorRBest
import Derived.Test.YtbdiilkdajadcaaDoorRNew
import Derived.Test.YtbdiilkdajadcaaDoorWApp
import Derived.Deep.RegionHeld3
set_option linter.unusedSimpArgs false
set_option linter.unusedVariables false
namespace Go.Proofs.YtbdiilkdajadcaaDoor
open Go.RowKit

theorem results_tmp3 {P : Program} {fn : Func} {a b c : Tmp} (hf : fn.results = #[.tmp a, .tmp b, .tmp c]) (tmps : Array Value) (w : World) (u v x : Value) (h1 : tmps.getD a undef = u) (h2 : tmps.getD b undef = v) (h3 : tmps.getD c undef = x) : (results fn tmps).run P w = .ok (.tuple #[u, v, x]) w := by
  subst h1; subst h2; subst h3; simp [results, hf]
/-- What Align leaves. -/
def AliPost (l : List Int) (c er : Int) (w : World) (e : Ending) (w' : World) : Prop := (∃ v, e = .returned (.tuple #[v, .int .i64 c, .int .i64 er]) ∧ Own .i64 3 w' w.heap.size v l) ∧ Below w.heap.size w w'
/-- The table while it is filled: the rows from k on are done, and of the row ahead of them the places from m on. -/
def UA (a b : List Int) (k m : Nat) : Nat → Nat → Int × Int := fun x y => if k ≤ x ∨ (x + 1 = k ∧ m ≤ y) then (cst a b x y, (fst a b x y : Int)) else (0, 0)
theorem UA_done {a b : List Int} {k m x y : Nat} (h : k ≤ x ∨ (x + 1 = k ∧ m ≤ y)) : UA a b k m x y = (cst a b x y, (fst a b x y : Int)) := if_pos h
theorem UA_bd {a b : List Int} {k m x y : Nat} (hx : x ≤ a.length) (hy : y ≤ b.length) (la : a.length ≤ 96) (lb : b.length ≤ 96) : -4000 ≤ (UA a b k m x y).1 ∧ (UA a b k m x y).1 ≤ 4000 := by
  unfold UA
  split
  · have := cst_bd (a := a) (b := b) x y hx hy; simp only; omega
  · exact ⟨by decide, by decide⟩
theorem UA_best {a b : List Int} {i j : Nat} (hi : i ≤ a.length) (hj : j ≤ b.length) : bestK (fun x y => (UA a b (i + 1) (j + 1) x y).1) a b i j = (cst a b i j, fst a b i j) := by
  have : bestK (fun x y => (UA a b (i + 1) (j + 1) x y).1) a b i j = restR a b i j := by
    rw [restR_eq hi hj]
    unfold bestK
    rw [pickK_congr fun n ho => ?_]
    have hk := okP_in hi hj ho
    rw [UA_done (by omega)]
  rw [this]; rfl
theorem UA_step {a b : List Int} {i j x y : Nat} : upd (UA a b (i + 1) (j + 1)) i j (cst a b i j, (fst a b i j : Int)) x y = UA a b (i + 1) j x y := by
  by_cases h : x = i ∧ y = j
  · obtain ⟨rfl, rfl⟩ := h
    rw [upd_same, UA_done (by omega)]
  · rw [upd_other _ _ h]
    unfold UA
    by_cases g : i + 1 ≤ x ∨ (x + 1 = i + 1 ∧ j + 1 ≤ y)
    · rw [if_pos g, if_pos (by omega)]
    · rw [if_neg g, if_neg (by omega)]
theorem UA_row {a b : List Int} {i x y : Nat} (hy : y < b.length + 1) : UA a b (i + 1) 0 x y = UA a b i (b.length + 1) x y := by
  unfold UA
  by_cases g : i + 1 ≤ x ∨ (x + 1 = i + 1 ∧ 0 ≤ y)
  · rw [if_pos g, if_pos (by omega)]
  · rw [if_neg g, if_neg (by omega)]
theorem UA_start {a b : List Int} {x y : Nat} (hx : x < a.length + 1) (hy : y < b.length + 1) : ((0 : Int), (0 : Int)) = UA a b (a.length + 1) (b.length + 1) x y := by
  unfold UA; rw [if_neg (by omega)]
theorem Tab.rds {e : TypeId} {w : World} {base g LA LB : Nat} {rb rc : Nat → Nat} {U : Nat → Nat → Int × Int} (h : Tab RR e w base g (LA + 1) (LB + 1) (LA + 1) rb rc U) (hb : ∀ I J, I ≤ LA → J ≤ LB → -4000 ≤ (U I J).1 ∧ (U I J).1 ≤ 4000) : Rds w ⟨g, 0, none⟩ LA LB (fun x y => (U x y).1) :=
  fun I J hI hJ => ⟨rb I, rc I, by rw [add_own]; exact h.out I (by omega), h.cellR0 (by omega) (by omega), hb I J hI hJ⟩
theorem Knd.at {w : World} (h : Knd w) {n : Nat} (hn : n < 5) : w.cell? ⟨0, n * 3, none⟩ = some (.int .i64 (dA n : Int)) ∧ w.cell? ⟨0, n * 3 + 1, none⟩ = some (.int .i64 (dB n : Int)) ∧ w.cell? ⟨0, n * 3 + 2, none⟩ = some (.int .i64 (dC n)) := by
  have h5 : n = 0 ∨ n = 1 ∨ n = 2 ∨ n = 3 ∨ n = 4 := by omega
  rcases h5 with rfl | rfl | rfl | rfl | rfl
  · exact ⟨h.cs 0 (by decide), h.cs 1 (by decide), h.cs 2 (by decide)⟩
  · exact ⟨h.cs 3 (by decide), h.cs 4 (by decide), h.cs 5 (by decide)⟩
  · exact ⟨h.cs 6 (by decide), h.cs 7 (by decide), h.cs 8 (by decide)⟩
  · exact ⟨h.cs 9 (by decide), h.cs 10 (by decide), h.cs 11 (by decide)⟩
  · exact ⟨h.cs 12 (by decide), h.cs 13 (by decide), h.cs 14 (by decide)⟩

set_option maxRecDepth 100000 in
set_option maxHeartbeats 6400000 in
theorem ali_any (a b : List Int) (A B : Option Addr) (ca cb : Nat) (w : World) (hK : Knd w) (la : a.length ≤ 1000000000) (lb : b.length ≤ 1000000000) (ha : Row .i64 w w.heap.size A a) (hb : Row .i64 w w.heap.size B b) (hca : a.length ≤ ca) (hcb : b.length ≤ cb) :
    Calls Tryd.prog 9 #[.slice A a.length ca, .slice B b.length cb] w (AliPost (aliR a b).1 (aliR a b).2.1 (aliR a b).2.2 w) := by
  have HL := Lib.hid (long_any A B a.length ca b.length cb w la lb)
  by_cases hl : lngP a b
  · have HR := Lib.hid (show aliR a b = ([], 0, 3) from if_pos hl)
    rw [decide_eq_true (show 96 < a.length ∨ 96 < b.length from hl)] at HL
    go_enter Tryd.func9, Tryd.ntmps9
    go_wp2_with (first | (go_at_call 24; refine HL.out.mono ?_; rintro e w' ⟨rfl, rfl⟩))
    refine bodyPost_ret (results_tmp3 rfl _ _ _ _ _ rfl rfl rfl) rfl ?_
    rw [HR.out]
    exact ⟨⟨_, rfl, Own.nil⟩, Below.refl _ _⟩
  have HR := Lib.hid (show aliR a b = (scr a b, cst a b 0 0, 0) from if_neg hl)
  rw [decide_eq_false (show ¬ (96 < a.length ∨ 96 < b.length) from hl)] at HL
  have l1 : a.length ≤ 96 := by unfold lngP at hl; omega
  have l2 : b.length ≤ 96 := by unfold lngP at hl; omega
  have HN := Lib.hid (newR_any A B a.length ca b.length cb w l1 l2)
  have HBST := Lib.hid (fun (i j : Nat) (hi : i ≤ a.length) (hj : j ≤ b.length) (W : World) (k : Below w.heap.size w W) (T : Nat → Nat → Int) (hT : Rds W ⟨w.heap.size, 0, none⟩ a.length b.length T) => best_any a b A B ca cb (a.length + 1) i j ⟨w.heap.size, 0, none⟩ T W (hK.below k hK.lt) l1 l2 ((ha.under k).more k.size) ((hb.under k).more k.size) hca hcb hi hj hT)
  have HK := Lib.hid hK
  clear ha hb hK hl la lb
  go_enter Tryd.func9, Tryd.ntmps9
  go_wp2_with (first | (go_at_call 24; refine HL.out.mono ?_; rintro e w' ⟨rfl, rfl⟩))
  refine HN.out.mono ?_
  rintro e w1 ⟨rfl, ⟨rb, rc, T1⟩, B1⟩
  have HT1 := Lib.hid T1
  have HB1 := Lib.hid B1
  clear T1 B1 HN HL
  go_wp2_with fail
  go_loopw [8] (fun i wr => ∃ k : Nat, k ≤ a.length + 1 ∧ i = .int .i64 ((k : Int) - 1) ∧ Hid (Tab RR 50 wr w.heap.size w.heap.size (a.length + 1) (b.length + 1) (a.length + 1) rb rc (UA a b k (b.length + 1))) ∧ Hid (Below w.heap.size w wr)) (fun i _ => (intOf i + 1).toNat)
  case atStart => exact ⟨a.length + 1, Nat.le_refl _, by congr 1; omega, Lib.hid (HT1.out.congr (fun x y hx hy => UA_start hx hy)), HB1⟩
  case round =>
    clear HT1 HB1
    obtain ⟨k, hk, rfl, HT, HB⟩ := hrel
    cases k with
    | succ i =>
      rw [show (((i + 1 : Nat) : Int) - 1) = (i : Int) by omega]
      have i0 : (0 : Int) ≤ (i : Int) := by omega
      have i1 : (i : Int) < (a.length : Int) + 1 := by omega
      go_wp2_with fail
      generalize wr = wo at *
      go_loopw [9] (fun v wr => ∃ m : Nat, m ≤ b.length + 1 ∧ v = .int .i64 ((m : Int) - 1) ∧ Hid (Tab RR 50 wr w.heap.size w.heap.size (a.length + 1) (b.length + 1) (a.length + 1) rb rc (UA a b (i + 1) m)) ∧ Hid (Below w.heap.size w wr)) (fun v _ => (intOf v + 1).toNat)
      case atStart => exact ⟨b.length + 1, Nat.le_refl _, by congr 1; omega, HT, HB⟩
      case round =>
        clear HT HB
        obtain ⟨m, hm, rfl, HT, HB⟩ := hrel
        cases m with
        | succ j =>
          rw [show (((j + 1 : Nat) : Int) - 1) = (j : Int) by omega]
          have j0 : (0 : Int) ≤ (j : Int) := by omega
          have j1 : (j : Int) < (b.length : Int) + 1 := by omega
          have hi : i ≤ a.length := by omega
          have hj : j ≤ b.length := by omega
          have bst := HBST.out i j hi hj wr.drew (bdn (n := 1) HB.out) _ ((HT.out.below (k := a.length + 1) (w' := wr.drew) ⟨rfl, rfl, rfl, Nat.le_refl _, fun _ _ => rfl⟩).rds (fun I J hI hJ => UA_bd hI hJ l1 l2))
          rw [UA_best hi hj] at bst
          have oc := HT.out.out i (by omega)
          have bst2 := HBST.out i j hi hj wr.drew (bdn (n := 1) HB.out) _ ((HT.out.below (k := a.length + 1) (w' := wr.drew) ⟨rfl, rfl, rfl, Nat.le_refl _, fun _ _ => rfl⟩).rds (fun I J hI hJ => UA_bd hI hJ l1 l2))
          have HOC := Lib.hid (show ∀ W, Below wr.heap.size wr W → W.cell? ⟨w.heap.size, i, none⟩ = some (.slice (some ⟨rb i, 0, none⟩) (b.length + 1) (rc i)) from fun W k => (HT.out.below k).out i (by omega))
          go_wp2_with fail
          go_region_held3 (fun w' => w'.cell? ⟨w.heap.size, i, none⟩ = some (.slice (some ⟨rb i, 0, none⟩) (b.length + 1) (rc i)))
            (first | exact HOC.out _ ⟨rfl, rfl, rfl, Nat.le_refl _, fun _ _ => rfl⟩ | exact HOC.out _ ((⟨rfl, rfl, rfl, Nat.le_refl _, fun _ _ => rfl⟩ : Below wr.heap.size wr wr.drew).trans (by assumption)) | exact (HT2.out.setR (i := i) (by omega) j (_, _)).out i (by omega))
            (first | (go_at_call 26; refine bst.mono ?_; rintro e w' ⟨rfl, hbw⟩; have hBw := (⟨rfl, rfl, rfl, Nat.le_refl _, fun _ _ => rfl⟩ : Below wr.heap.size wr wr.drew).trans hbw; have HT2 := Lib.hid (HT.out.below hBw); have d0 := HT2.out.cellR0 (i := i) (j := j) (by omega) (by omega); have d1 := HT2.out.cellR1 (i := i) (j := j) (by omega) (by omega); have z0 := HT2.out.frozen (i := i) (by omega) (j * 2); have z1 := HT2.out.frozen (i := i) (by omega) (j * 2 + 1)))
          all_goals
            have HT3 := Lib.hid ((HT2.out.setR (i := i) (by omega) j (cst a b i j, (fst a b i j : Int))).congr (U := UA a b (i + 1) j) (fun x y _ _ => UA_step))
            have HB3 := Lib.hid (((HB.out.trans (hBw.mono HB.out.size)).setCell (p := ⟨rb i, j * 2, none⟩) (HT2.out.rlt (i := i) (by omega)).1 (.int .i64 (cst a b i j))).setCell (p := ⟨rb i, j * 2 + 1, none⟩) (HT2.out.rlt (i := i) (by omega)).1 (.int .i64 (fst a b i j : Int)))
            clear HT2 HT HB HOC oc d0 d1 z0 z1 hBw hbw bst
            go_wp2_with fail
            go_roundw
            case rel => exact ⟨j, by omega, by go_num, HT3, HB3⟩
            case measure => simp [intOf] <;> omega
        | zero =>
          have HT3 := Lib.hid (HT.out.congr (U := UA a b i (b.length + 1)) (fun x y _ hy => UA_row hy))
          clear HT
          rw [show (((0 : Nat) : Int) - 1) = -1 by omega]
          go_wp2_with fail
          go_roundw
          case rel => exact ⟨i, by omega, by go_num, HT3, HB⟩
          case measure => simp [intOf] <;> omega
    | zero =>
      rw [show (((0 : Nat) : Int) - 1) = -1 by omega]
      clear HBST
      go_wp2_with fail
      generalize wr = w2 at *
      have HS2 := Lib.hid HB.out.size
      have HI := Lib.hid (infoIntW)
      go_loopw [10, 11, 12] (fun v x y wr => ∃ (i j m : Nat) (es : List Nat), i ≤ a.length ∧ j ≤ b.length ∧ (a.length - i) + (b.length - j) ≤ m ∧ x = .int .i64 (i : Int) ∧ y = .int .i64 (j : Int) ∧ Hid (es ++ pathF a b m i j = pathF a b (a.length + b.length) 0 0) ∧ Hid (Own .i64 3 wr w2.heap.size v (es.map Int.ofNat)) ∧ Hid (Below w2.heap.size w2 wr)) (fun _ x y _ => (a.length - (intOf x).toNat) + (b.length - (intOf y).toNat))
      case atStart => exact ⟨0, 0, a.length + b.length, [], by omega, by omega, by omega, rfl, rfl, Lib.hid rfl, Lib.hid Own.nil, Lib.hid (Below.refl _ _)⟩
      case round =>
        obtain ⟨i, j, m, es, hi, hj, hm, rfl, rfl, HE, HO, HB2⟩ := hrel
        generalize wr = w3 at *
        by_cases hg : i < a.length ∨ j < b.length
        · obtain ⟨m', hm', hpa⟩ := pathF_step (m := m) hg hm
          obtain ⟨hok, hcs, -⟩ := rest_at hi hj hg
          have hin := okP_in hi hj hok
          have HT3 := HT.out.below HB2.out
          have t1 := HT3.out i (by omega)
          have t2 := HT3.cellR1 (i := i) (j := j) (by omega) (by omega)
          rw [UA_done (by omega)] at t2
          simp only at t2
          have HKN := Lib.hid (fun (W : World) (b : Below w2.heap.size w2 W) => (HK.out.below (HB.out.trans (b.mono HS2.out)) HK.out.lt).at hin.1)
          have hes : es.length + 1 ≤ a.length + b.length := by
            have := congrArg List.length HE.out
            rw [hpa, List.length_append, List.length_cons] at this
            have := pathF_len (a := a) (b := b) (a.length + b.length) 0 0
            omega
          have HE2 := Lib.hid (show (es ++ [fst a b i j]) ++ pathF a b m' (i + dA (fst a b i j)) (j + dB (fst a b i j)) = pathF a b (a.length + b.length) 0 0 from by
            rw [← HE.out, hpa, List.append_assoc]; rfl)
          obtain ⟨n, hn⟩ : ∃ n, n = fst a b i j := ⟨_, rfl⟩
          rw [← hn] at HKN t2 hin HE2
          obtain ⟨h5, hia, hjb, hd1, -⟩ := hin
          have n5 : (n : Int) < 5 := by omega
          have i0 : (0 : Int) ≤ (i : Int) := by omega
          have j0 : (0 : Int) ≤ (j : Int) := by omega
          have i1 : (i : Int) < (a.length : Int) + 1 := by omega
          have j1 : (j : Int) < (b.length : Int) + 1 := by omega
          have HLEN := Lib.hid (show (es.map Int.ofNat).length + 1 ≤ 1000000000 by rw [List.length_map]; omega)
          have HSB := Lib.hid HB2.out.size
          clear hpa hn hcs hok HT3
          have hcase : ((i : Int) < (a.length : Int)) ∨ (¬ (i : Int) < (a.length : Int) ∧ (j : Int) < (b.length : Int)) := by omega
          rcases hcase with g1 | ⟨g1, g2⟩
          all_goals
            go_wp2_with (first | (at_builtin; refine wpList_appI _ rfl (.tmp 62) (.tmp 64) rfl w2.heap.size _ (es.map Int.ofNat) rfl (HO.out.alloc _) (n : Int) w3 rfl _ rfl 1 rfl HLEN.out (le_allocW HSB.out) ?_; intro v5 w5 A5; have HB5 := Lib.hid (AppI.below A5 HB2.out HSB.out HO.out); have O5 := Lib.hid A5.1; obtain ⟨k0, k1, -⟩ := HKN.out _ HB5.out; clear A5))
            go_roundw
            case rel => exact ⟨i + dA n, j + dB n, m', es ++ [n], hia, hjb, by omega, by congr 1, by congr 1, HE2, Lib.hid (by rw [List.map_append]; exact O5.out), HB5⟩
            case measure => simp [intOf] <;> omega
        · have g1 : ¬ (i : Int) < (a.length : Int) := by omega
          have g2 : ¬ (j : Int) < (b.length : Int) := by omega
          obtain rfl : i = a.length := by omega
          obtain rfl : j = b.length := by omega
          have HE2 := Lib.hid (show es.map Int.ofNat = scr a b from by
            have := HE.out
            rw [pathF_end (by omega) (by omega), List.append_nil] at this
            rw [this]; rfl)
          have HT3 := HT.out.below HB2.out
          have t1 := HT3.out 0 (by omega)
          have t2 := HT3.cellR0 (i := 0) (j := 0) (by omega) (by omega)
          rw [UA_done (by omega)] at t2
          simp only [Nat.zero_mul] at t2
          clear HT3 HE
          rw [HE2.out] at HO
          have i1 : (0 : Int) < (a.length : Int) + 1 := by omega
          have j1 : (0 : Int) < (b.length : Int) + 1 := by omega
          go_wp2_with fail
          go_quiet (fail)
          go_wp2_with fail
          refine bodyPost_ret (results_tmp3 rfl _ _ _ _ _ rfl rfl rfl) rfl ?_
          rw [HR.out]
          exact ⟨⟨_, rfl, (HO.out.drewN _).base HS2.out⟩, bdn (HB.out.trans (HB2.out.mono HS2.out))⟩
end Go.Proofs.YtbdiilkdajadcaaDoor
