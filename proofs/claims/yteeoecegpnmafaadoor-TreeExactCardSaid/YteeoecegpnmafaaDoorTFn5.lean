/-
  Stage 10: the program's Settings.
-/
import Derived.Test.YteeoecegpnmafaaDoorTFn4
set_option linter.unusedSimpArgs false
set_option linter.unusedVariables false
namespace Go.Proofs.YteeoecegpnmafaaDoor
open Go.RowKit Go.Lib

def AppQ (base : Nat) (v : Value) (l : List (Int × Int)) (y : Int × Int) (W : World) (v' : Value) (w' : World) : Prop :=
  ROwn QR 46 w' base v' (l ++ [y]) ∧ W.grownBy w' v.ownBlock ∧ ∃ g c, v' = .slice (some ⟨g, 0, none⟩) (l.length + 1) c
theorem step_appQ (W : World) {ops : Array Oper} {o : Oper} {a : Act} {K : Act → World → Prop} {Q : Exit → Act → World → Prop} {E : Prop} (hgd : o.guard = none) (s x : Operand)
    (ho : o.op = .call { callee := .builtin .append, args := #[s, x], argTypes := #[43, 43] }) (base : Nat) (v : Value) (l : List (Int × Int)) (hs : a.eval s = v) (O : ROwn QR 46 W base v l)
    (y : Int × Int) (w0 : World) (hW : W = w0.alloc (.cells #[.int .i64 y.1, .int .i64 y.2] 46)) (z : Nat) (hz : w0.heap.size = z) (c : Nat) (hx : a.eval x = .slice (some ⟨z, 0, none⟩) 1 c)
    (hl : l.length + 1 ≤ 1000000) (hb : base ≤ W.heap.size)
    (h : ∀ v' w', AppQ base v l y W v' w' → K (a.put o.dst v') w') : if Region.wanted o (yielded ops a.tmps) = true then Oper.wp Tryd.prog o a W K Q else E := by
  obtain ⟨i0, hi, hz0, hz1, hz2⟩ := info_parts infoQ
  subst hz
  refine step_append_lies W hgd s x 43 ho base 46 i0 (.agg #[.int .i64 0, .int .i64 0]) 2 16 Tryd.underlying43 hi hz0 hz1 hz2 rfl (by decide) v l.length (QR.flat l) hs O ⟨w0.heap.size, 0, none⟩ 1 c (QR.flat [y]) hx rfl (by rw [hW]; exact newR (R := QR) (l := [y])) (flatR_one QR [y]) (by decide) (by unfold maxLen; omega) (by omega) hb W.heap.size rfl ?_
  intro g cap w1 hown hg hat hlt
  exact h _ w1 ⟨ROwn.app (R := QR) (m := [y]) hown rfl rfl, hg, g, cap, rfl⟩
def isSet (l : List El) (x : Int) : Bool := decide (0 < x) && decide (kindA l (parA l x) = 3)
def setL (l : List El) (zs : List Int) : List (Int × Int) := (zs.filter (isSet l)).map fun x => (parA l x, sideA l x)
theorem setL_snoc (l : List El) (zs : List Int) (z : Int) : setL l (zs ++ [z]) = setL l zs ++ (if isSet l z = true then [(parA l z, sideA l z)] else []) := by
  unfold setL
  rw [List.filter_append, List.map_append]
  congr 1
  by_cases h : isSet l z = true
  · rw [if_pos h, List.filter_cons_of_pos h]; rfl
  · rw [if_neg h, List.filter_cons_of_neg h]; rfl
def setZ (l : List El) (i : Int) : List (Int × Int) := setL l (wayZ l i)
def pairQ (er : Int) (l : List (Int × Int)) : List (Int × Int) := if er = 0 then l else []
def SetPost (l : List (Int × Int)) (er : Int) (w : World) (e : Ending) (w' : World) : Prop := ∃ v, e = .returned (.tuple #[v, .int .i64 er]) ∧ ROwn QR 46 w' w.heap.size v l ∧ Below w.heap.size w w'
theorem el_at {l : List El} {k : Nat} (h : k < l.length) : ∃ x, l[k]? = some x ∧ parA l (k : Int) = x.par ∧ kindA l (k : Int) = x.kind ∧ sideA l (k : Int) = x.side := by
  refine ⟨l[k], List.getElem?_eq_getElem h, ?_, ?_, ?_⟩ <;> first
    | (unfold parA; rw [Int.toNat_natCast, List.getD_eq_getElem?_getD, List.getElem?_eq_getElem h]; rfl)
    | (unfold kindA; rw [Int.toNat_natCast, List.getD_eq_getElem?_getD, List.getElem?_eq_getElem h]; rfl)
    | (unfold sideA; rw [Int.toNat_natCast, List.getD_eq_getElem?_getD, List.getElem?_eq_getElem h]; rfl)
set_option maxHeartbeats 1600000 in
theorem settings_any (l : List El) (A : Option Addr) (c : Nat) (i : Int) (w : World) (H : LRow w A c l) :
    Calls Tryd.prog 19 #[.slice A l.length c, .int .i64 i] w (SetPost (pairQ (chkZ l [i]) (setZ l i)) (chkZ l [i]) w) := by
  have HC := Lib.hid (check_any l A c (some ⟨w.heap.size, 0, none⟩) 1 [i] _ (H.alloc (.cells #[.int .i64 i] 3)) (rowLaid w [i]) (by show 1 ≤ 1000; decide))
  have HH := Lib.hid H
  clear H
  go_enter Tryd.func19, Tryd.ntmps19
  go_wp2_with fail
  refine HC.out.mono ?_
  rintro e w1 ⟨rfl, B1⟩
  have B := Lib.hid (below1 B1)
  clear B1 HC
  by_cases he : chkZ l [i] = 0
  · obtain ⟨p1, p2, p3⟩ := valid_par (chk_ok he).1
    have HE0 := Lib.hid (show pairQ (chkZ l [i]) (setZ l i) = setL l (wayZ l i) ∧ chkZ l [i] = 0 from ⟨if_pos he, he⟩)
    have hi := (chk_ok he).2 i (by simp)
    have HP1 := Lib.hid p1
    have HWB := Lib.hid (way_bd p1 hi.2)
    have HWL := Lib.hid (Nat.le_trans (way_len p1 hi.2) p3)
    have HP := Lib.hid (pathto_any l A c i w1 p1 p3 (HH.out.below B.out).row hi.1 hi.2)
    have HI2 := Lib.hid hi.2
    rw [he]
    clear he hi p1 p2 p3
    go_wp2_with fail
    refine HP.out.mono ?_
    rintro e w3 ⟨v, rfl, O, B3⟩
    obtain ⟨zA, zc, rfl, R, _⟩ := O.slice
    have R3 := Lib.hid R
    have B4 := Lib.hid (B.out.trans (B3.mono B.out.size))
    clear O R B3 HP
    obtain ⟨zs, hzs⟩ : ∃ zs, zs = wayZ l i := ⟨_, rfl⟩
    rw [← hzs] at R3 HWB HWL HE0 ⊢
    obtain ⟨K, hK⟩ : ∃ n, n = zs.length := ⟨_, rfl⟩
    have HK := Lib.hid hK
    have hKl : K ≤ 128 := by rw [hK]; exact HWL.out
    rw [← hK]
    clear hK hzs HWL
    go_wp2_with fail
    go_loopw [7, 21] (fun av iv wr => ∃ (j : Nat), j ≤ K ∧ iv = .int .i64 (j : Int) ∧ (setL l (zs.take j)).length ≤ j ∧ Hid (ROwn QR 46 wr w3.heap.size av (setL l (zs.take j))) ∧ Hid (Below w3.heap.size w3 wr)) (fun _ iv _ => K - (intOf iv).toNat)
    case atStart => exact ⟨0, by omega, rfl, Nat.le_refl _, Lib.hid ROwn.nil, Lib.hid (Below.refl _ _)⟩
    case round =>
      obtain ⟨j, hj, rfl, hm, O, Bw⟩ := hrel
      by_cases hlt : j < K
      · obtain ⟨ad, rfl, hb, hc⟩ := R3.out j (by rw [← HK.out]; exact hlt)
        have hc1 := (Bw.out.cell (p := ad.add j) (by rw [add_block]; exact hb)).trans hc
        have HT := Lib.hid (take_snocZ (show j < zs.length by rw [← HK.out]; exact hlt))
        have hmz := HWB.out (zs.getD j 0) (getD_mem (by rw [← HK.out]; exact hlt))
        have HL := Lib.hid (setL_snoc l (zs.take j) (zs.getD j 0))
        generalize zs.getD j 0 = z at *
        obtain ⟨q, rfl⟩ := Int.eq_ofNat_of_zero_le hmz.1
        have hql : q < l.length := by have := HI2.out; omega
        clear hc hb hmz
        by_cases hq0 : q = 0
        · have HL2 := Lib.hid (show setL l (zs.take (j + 1)) = setL l (zs.take j) by
            rw [HT.out, HL.out, if_neg (by unfold isSet; rw [decide_eq_false (by omega)]; simp), List.append_nil])
          have hg0 : ¬ (0 : Int) < (q : Int) := by omega
          clear HL hq0
          go_wp2_with fail
          go_roundw
          case rel => exact ⟨j + 1, by omega, by go_num, by rw [HL2.out]; omega, by rw [HL2.out]; exact O, Bw⟩
          case measure => simp [intOf]; omega
        · have hg0 : (0 : Int) < (q : Int) := by omega
          obtain ⟨x, hx, ex1, ex2, ex3⟩ := el_at hql
          rcases HP1.out (q : Int) (by omega) (by omega) with ⟨hh, _⟩ | ⟨_, hh1, hh2⟩
          · omega
          obtain ⟨p, hp⟩ := Int.eq_ofNat_of_zero_le hh1
          have hpl : p < l.length := by omega
          obtain ⟨y, hy, ey1, ey2, ey3⟩ := el_at hpl
          have HRow := (HH.out.below (B4.out.trans (Bw.out.mono B4.out.size))).row
          obtain ⟨lad, rfl, C⟩ := HRow.at_ hx
          obtain ⟨lad', e', D⟩ := HRow.at_ hy
          injection e' with e'
          subst e'
          have c2 := (ESpelt.of C).c2
          have c3 := (ESpelt.of C).c3
          have d0 := (ESpelt.of D).c0
          rw [← ex1, hp] at c2
          rw [← ex3] at c3
          rw [← ey2] at d0
          have hql' : (q : Int) < (l.length : Int) := by omega
          have hpl' : (p : Int) < (l.length : Int) := by omega
          have HS : isSet l (q : Int) = decide (kindA l (p : Int) = 3) := by unfold isSet; rw [decide_eq_true hg0, Bool.true_and, hp]
          rw [HS, hp] at HL
          generalize kindA l (p : Int) = kd at *
          generalize sideA l (q : Int) = sd at *
          clear HRow C D hx hy ex1 ex2 ex3 ey1 ey2 ey3 hh1 hh2 HS
          by_cases h3 : kd = 3
          · have HL2 := Lib.hid (show setL l (zs.take (j + 1)) = setL l (zs.take j) ++ [((p : Int), sd)] by
              rw [HT.out, HL.out, if_pos (by rw [h3]; rfl)])
            subst h3
            clear HL
            go_upto_region 9 with fail
            clear d0
            go_region_law (refine step_appQ _ rfl (.tmp 39) (.tmp 51) rfl w3.heap.size _ (setL l (zs.take j)) rfl (O.out.alloc _) ((p : Int), sd) wr.drew rfl _ rfl 1 rfl (by omega) (le_allocW (w := wr) Bw.out.size) ?_; intro v5 w5 A5; have O5 := Lib.hid A5.1; have B5 := Lib.hid (((show Below w3.heap.size w3 wr.drew from bdn (n := 1) Bw.out).alloc Bw.out.size (.cells #[.int .i64 (p : Int), .int .i64 sd] 46)).grown A5.2.1 (le_allocW (w := wr) Bw.out.size) (fun j hj => (O.out.block hj).1)); obtain ⟨_, _, g5, c5, rfl⟩ := A5)
            all_goals
              go_wp2_with fail
              go_roundw
              case rel => exact ⟨j + 1, by omega, by go_num, by rw [HL2.out, List.length_append]; simp; omega, by rw [HL2.out]; exact O5, B5⟩
              case measure => simp [intOf]; omega
          · have HL2 := Lib.hid (show setL l (zs.take (j + 1)) = setL l (zs.take j) by
              rw [HT.out, HL.out, if_neg (by simpa using h3), List.append_nil])
            have h3' : (kd == 3) = false := beq_eq_false_iff_ne.2 h3
            clear HL h3 c3
            go_wp2_with fail
            go_roundw
            case rel => exact ⟨j + 1, by omega, by go_num, by rw [HL2.out]; omega, by rw [HL2.out]; exact O, Bw⟩
            case measure => simp [intOf]; omega
      · obtain rfl : j = K := by omega
        have HF := Lib.hid (show zs.take j = zs by rw [HK.out, List.take_length])
        go_wp2_with fail
        go_ret2
        rw [HE0.out.1, HE0.out.2]
        exact ⟨_, rfl, by rw [← HF.out]; exact O.out.base B4.out.size, B4.out.trans (Bw.out.mono B4.out.size)⟩
  · have HE := Lib.hid (show pairQ (chkZ l [i]) (setZ l i) = [] from if_neg he)
    have hne : (chkZ l [i] != 0) = true := bne_iff_ne.2 he
    clear he
    go_wp2_with fail
    go_ret2
    exact ⟨_, rfl, by rw [HE.out]; exact ROwn.nil, B.out⟩
end Go.Proofs.YteeoecegpnmafaaDoor
