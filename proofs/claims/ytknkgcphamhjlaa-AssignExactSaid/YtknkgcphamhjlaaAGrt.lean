/-
  Stage 16: the loads that need a track, the greatest first, equal ones by their indexes.
-/
import Derived.Test.YtknkgcphamhjlaaAStb
import Derived.Test.YtknkgcphamhjlaaAFn
set_option linter.unusedSimpArgs false
set_option linter.unusedVariables false
namespace Go.Proofs.Ytknkgcphamhjlaa
open Go.RowKit Go.Lib Go.Shelf Go.Sort

abbrev toZ (os : List Nat) : List Int := os.map fun (x : Nat) => (x : Int)
theorem Own.after_sort {α : Type} [Inhabited α] {T : TypeId} {w : World} {base g n c m : Nat} {zs : List Int} (h : Own .i64 T w base (.slice (some ⟨g, 0, none⟩) n c) zs) (hn : n = zs.length) (f : α → Int) (d : Array α) (hd : d.size = zs.length) (os : Array Obj) :
    Own .i64 T (sortWorld (fun x => Value.int .i64 (f x)) w g 0 m d os) base (.slice (some ⟨g, 0, none⟩) n c) (d.toList.map f) := by
  subst hn
  refine ⟨by simp, ?_⟩
  rcases h.2 with ⟨e, _⟩ | ⟨g', cap, cur, e, hb, hh, h1, h2, h3, h4⟩
  · cases e
  · injection e with e1 e2 e3
    injection e1 with e1
    injection e1 with e1
    subst e1; subst e3
    have hlen : (d.toList.map f).length = zs.length := by simp [hd]
    refine Or.inr ⟨g, c, putCells (fun x => Value.int .i64 (f x)) 0 d cur, by rw [hlen], hb, ?_, by rw [hlen]; exact h1, h2, by unfold putCells; rw [Array.size_mapIdx]; exact h3, ?_⟩
    · have hg : g < w.heap.size := (Array.getElem?_eq_some_iff.1 hh).1
      show (_ ++ os)[g]? = _
      rw [Array.getElem?_append_left (by show g < (w.heap.modify g _).size; rw [Array.size_modify]; exact hg)]
      show (w.heap.modify g _)[g]? = _
      rw [Array.getElem?_modify, if_pos rfl, hh]
      rfl
    · refine List.ext_getElem? fun j => ?_
      rw [hlen, ← hd, Nat.mul_one, List.getElem?_take]
      by_cases hj : j < d.size
      · rw [if_pos hj]
        unfold putCells
        have hc : j < cur.size := by omega
        simp [Array.getElem?_toList, Array.getElem?_mapIdx, hc, hj]
      · rw [if_neg hj, List.getElem?_eq_none (by simp; omega)]
theorem below_sort {α : Type} [Inhabited α] {enc : α → Value} {B g m : Nat} {w0 w : World} (h : Below B w0 w) (hg : B ≤ g) (hB : B ≤ w.heap.size) (d : Array α) (os : Array Obj) : Below B w0 (sortWorld enc w g 0 m d os) := by
  refine h.trans ⟨rfl, rfl, rfl, ?_, fun i hi => ?_⟩
  · show w.heap.size ≤ (_ ++ os).size
    rw [Array.size_append]
    show w.heap.size ≤ (w.heap.modify g _).size + os.size
    rw [Array.size_modify]; omega
  · show (_ ++ os)[i]? = _
    rw [Array.getElem?_append_left (by show i < (w.heap.modify g _).size; rw [Array.size_modify]; omega)]
    show (w.heap.modify g _)[i]? = _
    rw [Array.getElem?_modify, if_neg (by omega)]
/-- The comparison: a greater load comes first. -/
def cmpA (a : List Int) (x y : Nat) : Int := Lib.compareInt (ld a y) (ld a x)
theorem cmpA_lt (a : List Int) (x y : Nat) : cmpA a x y < 0 ↔ ld a y < ld a x := by
  unfold cmpA Lib.compareInt
  generalize ld a y = p
  generalize ld a x = q
  by_cases h : p < q
  · simp [h]
  · by_cases h2 : q < p <;> simp [h, h2]
theorem compare_any (x y : Int) (w : World) : Calls Try.prog 37 #[.int .i64 x, .int .i64 y] w fun e w' => e = .returned (.int .i64 (Lib.compareInt x y)) ∧ w' = w := AnyG.cmp_Compare_int compareC x y w
set_option maxHeartbeats 800000 in
theorem closure_any (a : List Int) (A : Option Addr) (c b : Nat) (x y : Nat) (hx : x < a.length) (hy : y < a.length) (hl : a.length ≤ maxLen) (w : World) (h : Row .i64 w w.heap.size A a) (hb : w.cell? ⟨b, 0, none⟩ = some (.slice A a.length c)) :
    Calls Try.prog 36 #[.int .i64 (x : Int), .int .i64 (y : Int), .pointer (some ⟨b, 0, none⟩)] w fun e w' => e = .returned (.int .i64 (cmpA a x y)) ∧ ∃ q, w' = w.drewN q := by
  unfold maxLen at hl
  obtain ⟨ad, rfl, -, c1⟩ := h x hx
  obtain ⟨ad', e', -, d1⟩ := h y hy
  obtain rfl : ad = ad' := by injection e'
  have HC := Lib.hid (fun W => compare_any (ld a y) (ld a x) W)
  have HR := Lib.hid (show cmpA a x y = Lib.compareInt (ld a y) (ld a x) from rfl)
  change w.cell? _ = some (Value.int .i64 (ld a x)) at c1
  change w.cell? _ = some (Value.int .i64 (ld a y)) at d1
  obtain ⟨L, hL⟩ : ∃ n, n = a.length := ⟨_, rfl⟩
  rw [← hL] at hb hx hy hl
  rw [HR.out]
  generalize Lib.compareInt (ld a y) (ld a x) = r at *
  generalize ld a x = bx at *
  generalize ld a y = bY at *
  have x1 : (x : Int) < (L : Int) := by omega
  have y1 : (y : Int) < (L : Int) := by omega
  clear h e' HR hL hx hy
  go_enter Try.func36, Try.ntmps36
  go_wp2_with fail
  go_quiet ((go_at_call 37; exact Calls.quiet_of_same (HC.out _)))
  go_wp2_with fail
  go_ret
  exact ⟨rfl, _, rfl⟩
set_option maxHeartbeats 1600000 in
theorem stable_nil (f : Value) (p : Option Addr) (cp : Nat) (w : World) : Calls Try.prog 35 #[.slice p 0 cp, f] w fun e w' => e = .returned (.tuple #[]) ∧ w' = w := by
  have hI : ∀ W, Calls Try.prog 48 #[.slice p 0 cp, .int .i64 0, .int .i64 0, f] W fun e w' => e = .returned (.tuple #[]) ∧ w' = W := fun W => by
    go_enter Try.func48, Try.ntmps48
    go_wp2_with fail
    go_loopw [8] (fun iv wr => iv = .int .i64 1 ∧ Hid (wr = W)) (fun _ _ => 0)
    case atStart => exact ⟨rfl, Lib.hid rfl⟩
    case round =>
      obtain ⟨rfl, HW⟩ := hrel
      go_wp2_with fail
      go_end0
      exact ⟨rfl, HW.out⟩
  have HI := Lib.hid hI
  have hS : ∀ W, Calls Try.prog 43 #[.slice p 0 cp, .int .i64 0, f] W fun e w' => e = .returned (.tuple #[]) ∧ w' = W := fun W => by
    go_enter Try.func43, Try.ntmps43
    go_wp2_with fail
    go_loopw [7, 8] (fun a b wr => a = .int .i64 0 ∧ b = .int .i64 20 ∧ Hid (wr = W)) (fun _ _ _ => 0)
    case atStart => exact ⟨rfl, rfl, Lib.hid rfl⟩
    case round =>
      obtain ⟨rfl, rfl, HW⟩ := hrel
      go_wp2_with fail
      refine (HI.out _).mono ?_
      rintro e w1 ⟨rfl, hw⟩
      have HW1 := Lib.hid (hw.trans HW.out)
      clear hw HW
      go_wp2_with fail
      go_loopw [6] (fun a wr => a = .int .i64 20 ∧ Hid (wr = W)) (fun _ _ => 0)
      case atStart => exact ⟨rfl, HW1⟩
      case round =>
        clear HW1
        obtain ⟨rfl, HW2⟩ := hrel
        go_wp2_with fail
        go_end0
        exact ⟨rfl, HW2.out⟩
  have HS := Lib.hid hS
  clear hI hS
  go_enter Try.func35, Try.ntmps35
  go_wp2_with fail
  refine (HS.out _).mono ?_
  rintro e w1 ⟨rfl, hw⟩
  rw [hw]
  clear hw
  go_wp2_with fail
  go_end0
  exact ⟨rfl, rfl⟩
def posK (a : List Int) (k : Nat) : List Nat := (List.range k).filter fun x => decide (0 < ld a x)
theorem posK_yes {a : List Int} {k : Nat} (h : 0 < ld a k) : toZ (posK a (k + 1)) = toZ (posK a k) ++ [(k : Int)] := by
  unfold posK toZ
  have e : [k].filter (fun x => decide (0 < ld a x)) = [k] := by simp only [List.filter, decide_eq_true h]
  rw [List.range_succ, List.filter_append, e, List.map_append]; rfl
theorem posK_no {a : List Int} {k : Nat} (h : ¬ 0 < ld a k) : posK a (k + 1) = posK a k := by
  unfold posK
  have e : [k].filter (fun x => decide (0 < ld a x)) = [] := by simp only [List.filter, decide_eq_false h]
  rw [List.range_succ, List.filter_append, e, List.append_nil]
theorem posK_len (a : List Int) (k : Nat) : (posK a k).length ≤ k := by unfold posK; exact Nat.le_trans (List.length_filter_le _ _) (by simp)
def GrtPost (a : List Int) (w : World) (e : Ending) (w' : World) : Prop := ∃ v os, e = .returned v ∧ IsOrd a os ∧ Own .i64 3 w' w.heap.size v (toZ os) ∧ Below w.heap.size w w'
abbrev encF (n : Nat) (x : Fin (n + 1)) : Value := .int .i64 ((x.val : Nat) : Int)
abbrev finL (n : Nat) (os : List Nat) : List (Fin (n + 1)) := os.map (Fin.ofNat (n + 1))
theorem finL_val {n : Nat} {os : List Nat} (h : ∀ x ∈ os, x < n + 1) : (finL n os).map Fin.val = os := by
  rw [List.map_map]
  refine (List.map_congr_left fun x hx => ?_).trans (List.map_id _)
  show x % (n + 1) = x
  exact Nat.mod_eq_of_lt (h x hx)
theorem sort_ord {a : List Int} {n : Nat} (hn : a.length = n + 1) {z : List (Fin (n + 1))} (hp : z.Perm (finL n (posL a))) (hs : z.Pairwise fun x y => Rk a x.val y.val) : IsOrd a (z.map Fin.val) := by
  refine ⟨?_, by rw [List.pairwise_map]; exact hs⟩
  have := hp.map Fin.val
  rwa [finL_val (fun x hx => by have := (mem_posL.1 hx).1; omega)] at this
theorem cr_ord {a : List Int} {n : Nat} (hn : a.length = n + 1) : (finL n (posL a)).Pairwise (Cr (ltOf fun x y : Fin (n + 1) => cmpA a x.val y.val) fun x y => Rk a x.val y.val) := by
  have h0 : (posL a).Pairwise (· < ·) := List.Pairwise.filter _ List.pairwise_lt_range
  have h1 : ((finL n (posL a)).map Fin.val).Pairwise (· < ·) := by rw [finL_val (fun x hx => by have := (mem_posL.1 hx).1; omega)]; exact h0
  rw [List.pairwise_map] at h1
  refine h1.imp fun {x y} h => ⟨fun g => ?_, fun g => ?_⟩
  · unfold ltOf at g
    have := (cmpA_lt a _ _).1 (of_decide_eq_true g)
    exact Or.inl this
  · unfold ltOf at g
    have h2 : ¬ ld a x.val < ld a y.val := fun e => of_decide_eq_false g ((cmpA_lt a _ _).2 e)
    unfold Rk; omega
set_option maxRecDepth 100000 in
set_option maxHeartbeats 3200000 in
theorem greatest_any (a : List Int) (A : Option Addr) (c : Nat) (w : World) (h : Row .i64 w w.heap.size A a) (hl : a.length ≤ 32) :
    Calls Try.prog 23 #[.slice A a.length c] w (GrtPost a w) := by
  have H := Lib.hid h
  obtain ⟨L, hL⟩ : ∃ n, n = a.length := ⟨_, rfl⟩
  have HL := Lib.hid hL
  rw [← hL] at hl ⊢
  have hcell : (w.alloc (.cells #[.slice A L c] 22)).cell? ⟨w.heap.size, 0, none⟩ = some (.slice A L c) := by rw [cell_new]; rfl
  have B0 := Lib.hid ((Below.refl w.heap.size w).alloc (Nat.le_refl _) (.cells #[.slice A L c] 22))
  have hsz : (w.alloc (.cells #[.slice A L c] 22)).heap.size = w.heap.size + 1 := by simp
  obtain ⟨b, hb⟩ : ∃ b, b = w.heap.size := ⟨_, rfl⟩
  have HBB := Lib.hid hb
  clear h hL
  go_enter Try.func23, Try.ntmps23
  go_upto_region 1 with fail
  rw [← hb] at hcell hsz ⊢
  generalize w.alloc (.cells #[.slice A L c] 22) = w1 at *
  have HS1 := Lib.hid (show b < w1.heap.size by omega)
  have HWS := Lib.hid (show w.heap.size ≤ w1.heap.size by omega)
  have C0 := Lib.hid hcell
  clear hb hsz
  go_wp2_with fail
  clear hcell
  go_loopw [3, 8] (fun ov iv wr => ∃ k : Nat, k ≤ L ∧ iv = .int .i64 (k : Int) ∧ Hid (Own .i64 3 wr w1.heap.size ov (toZ (posK a k))) ∧ Hid (RowKit.Below w1.heap.size w1 wr)) (fun _ iv _ => L - (intOf iv).toNat)
  case atStart => exact ⟨0, by omega, rfl, Lib.hid Own.nil, Lib.hid (RowKit.Below.refl _ _)⟩
  case round =>
    obtain ⟨k, hk, rfl, O, B⟩ := hrel
    have HA := Lib.hid (H.out.below (B0.out.trans (B.out.mono HWS.out)))
    by_cases hlt : k < L
    · obtain ⟨ad, rfl, -, c1⟩ := HA.out k (by rw [← HL.out]; exact hlt)
      obtain ⟨z, hz⟩ : ∃ z, z = ld a k := ⟨_, rfl⟩
      have HZ := Lib.hid hz
      change wr.cell? _ = some (Value.int .i64 (ld a k)) at c1
      rw [← hz] at c1
      clear hz
      by_cases t1 : 0 < z
      · have HP := Lib.hid (posK_yes (a := a) (k := k) (by rw [← HZ.out]; exact t1))
        have HLN := Lib.hid (show (toZ (posK a k)).length + 1 ≤ 1000000000 by have := posK_len a k; simp; omega)
        go_wp2_with (first | (at_builtin; refine wpList_appI _ rfl (.tmp 15) (.tmp 17) rfl w1.heap.size _ (toZ (posK a k)) rfl (O.out.alloc _) (k : Int) wr rfl _ rfl 1 rfl HLN.out (le_allocW (w := wr) B.out.size) ?_; intro v5 w5 A5; have HO5 := Lib.hid (show Own .i64 3 w5 w1.heap.size v5 (toZ (posK a (k + 1))) by rw [HP.out]; exact A5.1); have HB5 := Lib.hid (A5.below B.out B.out.size O.out); clear A5))
        go_roundw
        case rel => exact ⟨k + 1, by omega, by go_num, HO5, HB5⟩
        case measure => simp [intOf]; omega
      · have HP := Lib.hid (show Own .i64 3 wr w1.heap.size u3 (toZ (posK a (k + 1))) by rw [posK_no (by rw [← HZ.out]; exact t1)]; exact O.out)
        go_wp2_with fail
        go_roundw
        case rel => exact ⟨k + 1, by omega, by go_num, HP, B⟩
        case measure => simp [intOf]; omega
    · obtain rfl : k = L := by omega
      have C2 := Lib.hid ((B.out.cell (p := ⟨b, 0, none⟩) HS1.out).trans C0.out)
      have HBW := Lib.hid (B0.out.trans (B.out.mono HWS.out))
      have hpl : posK a k = posL a := by unfold posK posL; rw [HL.out]
      rw [hpl] at O
      clear hlt hk hpl
      rcases O.out.2 with ⟨rfl, hn⟩ | ⟨g, cap, cur, rfl, hgb, hgl, hlc, hcm, hcs, htk⟩
      · have hnil : posL a = [] := List.eq_nil_of_length_eq_zero (by simpa using hn)
        have HN := Lib.hid (show IsOrd a [] from ⟨by rw [hnil], List.Pairwise.nil⟩)
        have HO := Lib.hid (show Own .i64 3 wr w.heap.size (.slice none 0 0) (toZ []) from Own.nil)
        clear hnil hn O H HA C2
        go_wp2_with (go_at_call 35; refine (stable_nil _ _ _ _).mono ?_; rintro e w' ⟨rfl, rfl⟩)
        go_ret
        exact ⟨_, [], rfl, HN.out, HO.out, HBW.out⟩
      · by_cases hz : posL a = []
        · have HN := Lib.hid (show IsOrd a [] from ⟨by rw [hz], List.Pairwise.nil⟩)
          have HO := Lib.hid (show Own .i64 3 wr w.heap.size (.slice (some ⟨g, 0, none⟩) 0 cap) (toZ []) from by have := O.out.base HWS.out; rw [hz] at this; exact this)
          have e0 : (toZ (posL a)).length = 0 := by rw [hz]; rfl
          rw [e0]
          clear hz hgb hgl hlc hcm hcs htk O H HA C2 e0
          go_wp2_with (go_at_call 35; refine (stable_nil _ _ _ _).mono ?_; rintro e w' ⟨rfl, rfl⟩)
          go_ret
          exact ⟨_, [], rfl, HN.out, HO.out, HBW.out⟩
        · obtain ⟨n, hn⟩ : ∃ n, a.length = n + 1 := by
            cases ha : a.length with
            | zero => exfalso; apply hz; unfold posL; rw [ha]; rfl
            | succ n => exact ⟨n, rfl⟩
          have hpl : (posL a).length ≤ 32 := by
            have : (posL a).length ≤ a.length := by unfold posL; exact Nat.le_trans (List.length_filter_le _ _) (by simp)
            have h2 := HL.out
            omega
          have hlen : (toZ (posL a)).length = (posL a).length := by simp
          obtain ⟨M, hM⟩ : ∃ M, M = (posL a).length := ⟨_, rfl⟩
          have hlf : (finL n (posL a)).length = M := by rw [hM]; simp
          have hOz := O.out
          rw [hlen, ← hM] at hOz
          have eg : ∀ args w, (callFunc 36 args).run Try.prog w = .ok (.enter 36 args) w := enters_of Try.func36 (by kernel_rfl) rfl
          have hgs : g < wr.heap.size := (own_block O.out (g := g) rfl).2
          have hds : (finL n (posL a)).toArray.size = M := by simpa using hlf
          have hbg : b < g := by have := HS1.out; omega
          have hwg : w.heap.size ≤ g := by have := HWS.out; omega
          have hvz : ((finL n (posL a)).toArray.toList.map fun x : Fin (n + 1) => ((x.val : Nat) : Int)) = toZ (posL a) := by
            have := congrArg (List.map fun (x : Nat) => (x : Int)) (finL_val (n := n) (os := posL a) (fun x hx => by have := (mem_posL.1 hx).1; omega))
            rw [List.map_map] at this
            exact this
          have hHo : Holds (encF n) wr g 0 (finL n (posL a)).toArray := fun j hj => by
            rw [hds] at hj
            have d := O.out.cell rfl j (by rw [hlen, ← hM]; exact hj)
            have fz := O.out.frozen rfl j
            rw [Nat.zero_add]
            refine ⟨d.trans ?_, fz⟩
            have e1 : (toZ (posL a)).getD j 0 = (((finL n (posL a)).toArray[j]!).val : Int) := by
              rw [← hvz]
              have hj' : j < (posL a).length := by omega
              simp [List.getD_eq_getElem?_getD, hj']
            rw [e1]
          have hC : CmpReads Try.prog 36 #[.pointer (some ⟨b, 0, none⟩)] (encF n) (fun x y => cmpA a x.val y.val) g 0 (finL n (posL a)).toArray.size wr := fun m os dk hs x y => by
            have b1 := below_sort (enc := encF n) (m := m) HBW.out hwg HBW.out.size dk os
            have b2 := below_sort (enc := encF n) (m := m) (RowKit.Below.refl g wr) (Nat.le_refl g) (Nat.le_of_lt hgs) dk os
            have hx := x.isLt
            have hy := y.isLt
            have e := closure_any a A c b x.val y.val (by omega) (by omega) (by unfold maxLen; have := HL.out; omega) _ (H.out.below b1) (by rw [← HL.out]; exact (b2.cell (p := ⟨b, 0, none⟩) hbg).trans C2.out)
            exact e
          have T : Srt (encF n) (fun x y : Fin (n + 1) => cmpA a x.val y.val) 36 #[.pointer (some ⟨b, 0, none⟩)] g 0 (finL n (posL a)).toArray wr := ⟨⟨fun _ => rfl, hHo, hgs⟩, hC.lays, eg, by rw [hds]; omega⟩
          have hS := sortStable_any (R := fun x y : Fin (n + 1) => Rk a x.val y.val) (fun x y z h1 h2 => h1.trans h2) T cap M (finL n (posL a)) wr hds.symm hlf (by omega) (cr_ord hn) (SW.start hHo)
          have HS := Lib.hid hS
          have HO2 := Lib.hid (hOz.base HWS.out)
          have HHN := Lib.hid hn
          have HVZ := Lib.hid hvz
          have HDS := Lib.hid hds
          have HM := Lib.hid hM
          have HWG := Lib.hid hwg
          rw [hlen, ← hM]
          clear hpl hlen hM hlf hOz eg hgs hds hbg hwg hvz hHo hC T hS hn hz hgb hgl hlc hcm hcs htk O H HA C2
          go_wp2_with (go_at_call 35; refine HS.out.mono ?_; rintro e w' ⟨rfl, z, z1, z2, nn, os, rfl⟩)
          go_ret
          refine ⟨_, z.map Fin.val, rfl, sort_ord HHN.out z1 z2, ?_, below_sort HBW.out HWG.out HBW.out.size _ os⟩
          have hzl : z.length = (posL a).length := by have := z1.length_eq; simpa using this
          have := HO2.out.after_sort (m := nn) (by rw [HM.out]; simp) (fun x : Fin (n + 1) => ((x.val : Nat) : Int)) ([] ++ (z ++ [])).toArray (by simp [hzl]) os
          unfold toZ
          rw [List.map_map]
          rw [List.nil_append, List.append_nil] at this
          exact this
end Go.Proofs.Ytknkgcphamhjlaa
