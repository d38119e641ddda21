/-
  Stage 10: the reference's check, Way, Path, Beyond, Tracks.
-/
import Derived.Test.YteeoecegpnmafaaDoorLRVal
import Derived.Test.YteeoecegpnmafaaDoorTBey
import Derived.Test.YteeoecegpnmafaaDoorTLawK
set_option linter.unusedSimpArgs false
set_option linter.unusedVariables false
namespace Go.Proofs.YteeoecegpnmafaaDoor
open Go.RowKit Go.Lib

set_option maxHeartbeats 800000 in
theorem rcheck_any (l : List El) (A : Option Addr) (c : Nat) (i : Int) (w : World) (H : LRow w A c l) (hf : SzF l) :
    Calls Tryd.prog 35 #[.slice A l.length c, .int .i64 i] w (IntPost (chkZ l [i]) w) := by
  have HV := Lib.hid (rvalid_any l A c w H.row hf)
  have hlen := H.row.len
  unfold maxLen at hlen
  obtain ⟨L, hL⟩ : ∃ n, n = l.length := ⟨_, rfl⟩
  have HL := Lib.hid hL
  have H1 := Lib.hid (show validE l ≠ 0 → chkZ l [i] = validE l from fun h => if_neg h)
  have H2 := Lib.hid (show validE l = 0 → (0 ≤ i ∧ i < (l.length : Int)) → chkZ l [i] = 0 from fun h g => chk_of h (fun z hz => by rw [List.mem_singleton.1 hz]; exact g))
  have H3 := Lib.hid (show validE l = 0 → ¬ (0 ≤ i ∧ i < (l.length : Int)) → chkZ l [i] = 2 from fun h g => by
    unfold chkZ
    rw [if_pos h, if_neg]
    simp [inR]
    omega)
  rw [← hL] at hlen HV ⊢
  clear hL H
  go_enter Tryd.func35, Tryd.ntmps35
  go_wp2_with fail
  refine HV.out.mono ?_
  rintro e w1 ⟨rfl, B1⟩
  have HB1 := Lib.hid B1
  clear B1 HV
  by_cases he : validE l = 0
  · have HE := Lib.hid he
    rw [he]
    clear he
    by_cases h0 : i < 0
    · have HF := Lib.hid (H3.out HE.out (by omega))
      go_wp2_with fail
      go_ret
      exact ⟨by rw [HF.out]; rfl, HB1.out⟩
    · by_cases h1 : (L : Int) ≤ i
      · have HF := Lib.hid (H3.out HE.out (by have := HL.out; omega))
        go_wp2_with fail
        go_ret
        exact ⟨by rw [HF.out]; rfl, HB1.out⟩
      · have HF := Lib.hid (H2.out HE.out (by have := HL.out; omega))
        go_wp2_with fail
        go_ret
        exact ⟨by rw [HF.out]; rfl, HB1.out⟩
  · have HE := Lib.hid (H1.out he)
    have hne : (validE l != 0) = true := bne_iff_ne.2 he
    clear he
    go_wp2_with fail
    go_ret
    exact ⟨by rw [HE.out]; rfl, HB1.out⟩
set_option maxHeartbeats 800000 in
theorem rway_any (l : List El) (A : Option Addr) (c : Nat) (hp : Par l) (h128 : l.length ≤ 128) : ∀ (f : Nat) (i : Int) (w : World), RRow ER w A l → -1 ≤ i → i < l.length → (i + 1).toNat ≤ f →
    Calls Tryd.prog 36 #[.slice A l.length c, .int .i64 i] w (IntsPost (wayZ l i) w) := by
  intro f
  induction f with
  | zero =>
    intro i w H hi0 hi1 hf
    have hneg : i < 0 := by omega
    have HZ := Lib.hid (wayZ_neg (l := l) hneg)
    clear H
    go_enter Tryd.func36, Tryd.ntmps36
    go_wp2_with fail
    go_ret
    exact ⟨_, rfl, by rw [HZ.out]; exact Own.nil, Below.refl _ _⟩
  | succ f ih =>
    intro i w H hi0 hi1 hf
    by_cases hneg : i < 0
    · have HZ := Lib.hid (wayZ_neg (l := l) hneg)
      clear H ih
      go_enter Tryd.func36, Tryd.ntmps36
      go_wp2_with fail
      go_ret
      exact ⟨_, rfl, by rw [HZ.out]; exact Own.nil, Below.refl _ _⟩
    · obtain ⟨k, rfl⟩ := Int.eq_ofNat_of_zero_le (show 0 ≤ i by omega)
      have hb := hp.bd (show (0 : Int) ≤ (k : Int) by omega) hi1
      have hk : k < l.length := by omega
      obtain ⟨x, hx, e2, _, _⟩ := el_at hk
      obtain ⟨ad, rfl, C⟩ := H.at_ hx
      have c2 := (ESpelt.of C).c2
      rw [← e2] at c2
      obtain ⟨p, hpa⟩ : ∃ p, p = parA l (k : Int) := ⟨_, rfl⟩
      have HST := Lib.hid (wayZ_step hp (show (0 : Int) ≤ (k : Int) by omega) hi1)
      have HLN := Lib.hid (Nat.le_trans (way_len hp (show parA l (k : Int) < l.length by omega)) h128)
      have HC := Lib.hid (ih (parA l (k : Int)) w H (by omega) (by omega) (by omega))
      rw [← hpa] at c2 HST HLN HC hb
      have hkL : (k : Int) < (l.length : Int) := hi1
      clear C e2 hpa ih H hx
      go_enter Tryd.func36, Tryd.ntmps36
      go_wp2_with fail
      refine HC.out.mono ?_
      rintro e w1 ⟨v, rfl, O, B⟩
      have HO := Lib.hid O
      have HB := Lib.hid B
      clear O B HC c2
      go_wp2_with (first | (at_builtin; refine wpList_appI _ rfl (.tmp 13) (.tmp 15) rfl w.heap.size _ (wayZ l p) rfl (HO.out.alloc _) (k : Int) w1 rfl _ rfl 1 rfl (by have := HLN.out; omega) (le_allocW HB.out.size) ?_; rintro v6 w6 hap; have O6 := Lib.hid hap.1; have B6 := Lib.hid (hap.below HB.out HB.out.size HO.out); obtain ⟨_, _, g6, c6, rfl, _, _⟩ := hap; clear HO HB))
      go_ret
      exact ⟨_, rfl, by rw [HST.out]; exact O6.out, B6.out⟩
set_option maxHeartbeats 800000 in
theorem rpath_any (l : List El) (A : Option Addr) (c : Nat) (i : Int) (w : World) (H : LRow w A c l) (hf : SzF l) :
    Calls Tryd.prog 25 #[.slice A l.length c, .int .i64 i] w (PairPost (pairE (chkZ l [i]) (wayZ l i)) (chkZ l [i]) w) := by
  have HC := Lib.hid (rcheck_any l A c i w H hf)
  have HH := Lib.hid H
  clear H
  go_enter Tryd.func25, Tryd.ntmps25
  go_wp2_with fail
  refine HC.out.mono ?_
  rintro e w1 ⟨rfl, B1⟩
  have B := Lib.hid B1
  clear B1 HC
  by_cases he : chkZ l [i] = 0
  · obtain ⟨p1, p2, p3⟩ := valid_par (chk_ok he).1
    have hi := (chk_ok he).2 i (by simp)
    have HP := Lib.hid (rway_any l A c p1 p3 _ i w1 (HH.out.below B.out).row (by omega) hi.2 (Nat.le_refl _))
    have HE0 := Lib.hid (show pairE (chkZ l [i]) (wayZ l i) = wayZ l i ∧ chkZ l [i] = 0 from ⟨if_pos he, he⟩)
    rw [he]
    clear p1 p2 p3 hi he
    go_wp2_with fail
    refine HP.out.mono ?_
    rintro e w2 ⟨v, rfl, O, B2⟩
    have O2 := Lib.hid (O.base B.out.size)
    have B3 := Lib.hid (B.out.trans (B2.mono B.out.size))
    clear O B2
    go_wp2_with fail
    go_ret2
    rw [HE0.out.1, HE0.out.2]
    exact ⟨v, rfl, O2.out, B3.out⟩
  · have HE := Lib.hid (show pairE (chkZ l [i]) (wayZ l i) = [] from if_neg he)
    have hne : (chkZ l [i] != 0) = true := bne_iff_ne.2 he
    clear he
    go_wp2_with fail
    go_ret2
    exact ⟨_, rfl, by rw [HE.out]; exact Own.nil, B.out⟩
/-- The tracks beyond i among the first k elements. -/
def byT (l : List El) (i : Int) (k : Nat) : List Int := ((List.range k).filter fun j => isTrk l j && (onZ l (j : Int)).getD i.toNat false).map fun (j : Nat) => (j : Int)
theorem byT_all (l : List El) (i : Int) : byT l i l.length = byZ l i := rfl
theorem byT_snoc (l : List El) (i : Int) (k : Nat) : byT l i (k + 1) = byT l i k ++ (if (isTrk l k && (onZ l (k : Int)).getD i.toNat false) = true then [(k : Int)] else []) := by
  unfold byT
  rw [List.range_succ, List.filter_append, List.map_append]
  congr 1
  by_cases h : (isTrk l k && (onZ l (k : Int)).getD i.toNat false) = true
  · rw [if_pos h]
    simp only [List.filter_cons, List.filter_nil]
    rw [if_pos h]; rfl
  · rw [if_neg h]
    simp only [List.filter_cons, List.filter_nil]
    rw [if_neg h]; rfl
theorem byT_len (l : List El) (i : Int) (k : Nat) : (byT l i k).length ≤ k := by
  unfold byT
  rw [List.length_map]
  exact Nat.le_trans (List.length_filter_le _ _) (by rw [List.length_range]; exact Nat.le_refl _)
set_option maxRecDepth 100000 in
set_option maxHeartbeats 3200000 in
theorem rbeyond_any (l : List El) (A : Option Addr) (c : Nat) (i : Int) (w : World) (H : LRow w A c l) (hf : SzF l) :
    Calls Tryd.prog 27 #[.slice A l.length c, .int .i64 i] w (PairPost (pairE (chkZ l [i]) (byZ l i)) (chkZ l [i]) w) := by
  have HC := Lib.hid (rcheck_any l A c i w H hf)
  have HH := Lib.hid H
  clear H
  go_enter Tryd.func27, Tryd.ntmps27
  go_wp2_with fail
  refine HC.out.mono ?_
  rintro e w1 ⟨rfl, B1⟩
  have B := Lib.hid B1
  clear B1 HC
  by_cases he : chkZ l [i] = 0
  · have HTP := Lib.hid (TreeP.of (chk_ok he).1)
    have h128 := (valid_par (chk_ok he).1).2.2
    have hi := (chk_ok he).2 i (by simp)
    have HE0 := Lib.hid (show pairE (chkZ l [i]) (byZ l i) = byZ l i ∧ chkZ l [i] = 0 from ⟨if_pos he, he⟩)
    rw [he]
    obtain ⟨a, rfl⟩ := Int.eq_ofNat_of_zero_le hi.1
    have haL : a < l.length := by omega
    obtain ⟨L, hL⟩ : ∃ n, n = l.length := ⟨_, rfl⟩
    have HL := Lib.hid hL
    rw [← hL] at h128 haL ⊢
    clear he hi hL
    go_wp2_with fail
    go_loopw [7, 8] (fun ov kv wr => ∃ k : Nat, k ≤ L ∧ kv = .int .i64 (k : Int) ∧ Hid (Own .i64 3 wr w1.heap.size ov (byT l (a : Int) k)) ∧ Hid (Below w1.heap.size w1 wr)) (fun _ kv _ => L - (intOf kv).toNat)
    case atStart => exact ⟨0, by omega, rfl, Lib.hid Own.nil, Lib.hid (Below.refl _ _)⟩
    case round =>
      obtain ⟨k, hk, rfl, O, Bw⟩ := hrel
      by_cases hlt : k < L
      · have hlt' : (k : Int) < (L : Int) := by omega
        obtain ⟨x, hx, _, ek, _⟩ := el_at (l := l) (k := k) (by rw [← HL.out]; exact hlt)
        have HR := HH.out.below (B.out.trans (Bw.out.mono B.out.size))
        obtain ⟨ad, rfl, C⟩ := HR.row.at_ hx
        have c0 := (ESpelt.of C).c0
        rw [← ek] at c0
        have HSN := Lib.hid (byT_snoc l (a : Int) k)
        have hbl := byT_len l (a : Int) k
        by_cases h4 : kindA l (k : Int) = 4
        · have h4b : (kindA l (k : Int) != 4) = false := by rw [h4]; rfl
          have htr : isTrk l k = true := decide_eq_true h4
          have HSN2 := Lib.hid (show byT l (a : Int) (k + 1) = byT l (a : Int) k ++ (if (a : Int) ∈ wayZ l (k : Int) then [(k : Int)] else []) by
            rw [HSN.out, htr, Bool.true_and]
            by_cases g : (a : Int) ∈ wayZ l (k : Int)
            · rw [if_pos g, if_pos ((on_mem HTP.out.par (by have := HL.out; omega) (by omega)).2 g)]
            · rw [if_neg g, if_neg (fun q => g ((on_mem HTP.out.par (by have := HL.out; omega) (by omega)).1 q))])
          generalize kindA l (k : Int) = kd at *
          subst h4
          clear C hx ek HR htr HSN
          generalize wr = wo at *
          generalize u7 = vo at *
          go_wp2_with fail
          go_loopw [7, 9] (fun ov pv wj => ∃ (p : Int) (fd : Bool), pv = .int .i64 p ∧ -1 ≤ p ∧ p < (L : Int) ∧ Hid ((a : Int) ∈ wayZ l (k : Int) ↔ fd = true ∨ (a : Int) ∈ wayZ l p) ∧ Hid (fd = true → (a : Int) ∉ wayZ l p) ∧ Hid (Own .i64 3 wj w1.heap.size ov (byT l (a : Int) k ++ (if fd = true then [(k : Int)] else []))) ∧ Hid (Below w1.heap.size w1 wj)) (fun _ pv _ => ((intOf pv) + 1).toNat)
          case atStart => exact ⟨(k : Int), false, rfl, by omega, hlt', Lib.hid (by simp), Lib.hid (fun h => by cases h), Lib.hid (by simpa using O.out), Bw⟩
          case round =>
            clear c0 O Bw
            obtain ⟨p, fd, rfl, hp0, hp1, HI, HN, O, Bw⟩ := hrel
            by_cases hneg : p < 0
            · have hpn : ¬ (0 : Int) ≤ p := by omega
              have HW0 := Lib.hid (wayZ_neg (l := l) hneg)
              have HO2 := Lib.hid (show Own .i64 3 wr w1.heap.size u7 (byT l (a : Int) (k + 1)) from by
                have h1 := O.out
                have h2 := HI.out
                rw [HW0.out] at h2
                rw [HSN2.out]
                cases fd with
                | true => rw [if_pos rfl] at h1; rw [if_pos (h2.2 (Or.inl rfl))]; exact h1
                | false =>
                  rw [if_neg (by decide)] at h1
                  rw [if_neg (fun g => by rcases h2.1 g with q | q <;> cases q)]
                  exact h1)
              clear HI HN O hneg
              go_wp2_with fail
              go_roundw
              case rel => exact ⟨k + 1, by omega, by go_num, HO2, Bw⟩
              case measure => simp [intOf]; omega
            · have hpp : (0 : Int) ≤ p := by omega
              obtain ⟨q, rfl⟩ := Int.eq_ofNat_of_zero_le hpp
              obtain ⟨y, hy, ey, _, _⟩ := el_at (l := l) (k := q) (by have := HL.out; omega)
              have HR := HH.out.below (B.out.trans (Bw.out.mono B.out.size))
              obtain ⟨ad', e', CY⟩ := HR.row.at_ hy
              injection e' with e'
              subst e'
              have c2 := (ESpelt.of CY).c2
              rw [← ey] at c2
              have hst := wayZ_step HTP.out.par hpp (by have := HL.out; omega)
              have hbd := HTP.out.par.bd hpp (by have := HL.out; omega)
              have hwb := way_bd HTP.out.par (show parA l (q : Int) < l.length by have := HL.out; omega)
              rw [hst] at HI HN
              have HWB := Lib.hid hwb
              have HIN := Lib.hid HI.out
              have HNN := Lib.hid HN.out
              have HY := Lib.hid hy
              have HEY := Lib.hid ey
              clear CY hy ey HR hst hwb HI HN hneg
              generalize hpq : parA l (q : Int) = pq at *
              clear hpq
              by_cases hqa : q = a
              · subst hqa
                have hfd : fd = false := by
                  cases fd with
                  | false => rfl
                  | true => exact absurd (List.mem_append_right _ (List.mem_singleton.2 rfl)) (HNN.out rfl)
                subst hfd
                have HI2 := Lib.hid (show (q : Int) ∈ wayZ l (k : Int) ↔ true = true ∨ (q : Int) ∈ wayZ l pq from ⟨fun _ => Or.inl rfl, fun _ => HIN.out.2 (Or.inr (List.mem_append_right _ (List.mem_singleton.2 rfl)))⟩)
                have HN2 := Lib.hid (show true = true → (q : Int) ∉ wayZ l pq from fun _ g => by have := HWB.out _ g; omega)
                have HO := Lib.hid (show Own .i64 3 wr w1.heap.size u7 (byT l (q : Int) k) by have := O.out; simpa using this)
                clear HIN HNN HWB O
                go_upto_region 11 with (first | (at_builtin; refine wpList_appI _ rfl (.tmp 39) (.tmp 41) rfl w1.heap.size _ (byT l (q : Int) k) rfl (HO.out.alloc _) (k : Int) wr rfl _ rfl 1 rfl (by omega) (le_allocW Bw.out.size) ?_; rintro v6 w6 hap; have O6 := Lib.hid hap.1; have B6 := Lib.hid (hap.below Bw.out Bw.out.size HO.out); obtain ⟨_, _, g6, c6, rfl, _, _⟩ := hap; clear HO Bw))
                obtain ⟨ad2, e2, CY2⟩ := (HH.out.below (B.out.trans (B6.out.mono B.out.size))).row.at_ HY.out
                injection e2 with e2
                subst e2
                have d2 := (ESpelt.of CY2).c2
                rw [← HEY.out] at d2
                clear CY2 c2
                go_wp2_with fail
                go_roundw
                case rel => exact ⟨pq, true, rfl, hbd.1, by omega, HI2, HN2, by rw [if_pos rfl]; exact O6, B6⟩
                case measure => simp [intOf]; omega
              · have hqb : ((q : Int) == (a : Int)) = false := beq_eq_false_iff_ne.2 (by omega)
                have HI2 := Lib.hid (show (a : Int) ∈ wayZ l (k : Int) ↔ fd = true ∨ (a : Int) ∈ wayZ l pq from by
                  rw [HIN.out, List.mem_append, List.mem_singleton]
                  constructor
                  · rintro (g | g | g)
                    · exact Or.inl g
                    · exact Or.inr g
                    · omega
                  · rintro (g | g)
                    · exact Or.inl g
                    · exact Or.inr (Or.inl g))
                have HN2 := Lib.hid (show fd = true → (a : Int) ∉ wayZ l pq from fun g z => HNN.out g (List.mem_append_left _ z))
                clear HIN HNN HWB
                go_wp2_with fail
                go_roundw
                case rel => exact ⟨pq, fd, rfl, hbd.1, by omega, HI2, HN2, O, Bw⟩
                case measure => simp [intOf]; omega
        · have h4b : (kindA l (k : Int) != 4) = true := bne_iff_ne.2 h4
          have HS2 := Lib.hid (show byT l (a : Int) (k + 1) = byT l (a : Int) k by
            rw [HSN.out, if_neg (by unfold isTrk; rw [decide_eq_false h4]; simp), List.append_nil])
          generalize kindA l (k : Int) = kd at *
          clear C hx ek HR h4
          go_wp2_with fail
          go_roundw
          case rel => exact ⟨k + 1, by omega, by go_num, by rw [HS2.out]; exact O, Bw⟩
          case measure => simp [intOf]; omega
      · obtain rfl : k = L := by omega
        have HF := Lib.hid (show byT l (a : Int) k = byZ l (a : Int) by rw [HL.out]; exact byT_all l _)
        go_wp2_with fail
        go_ret2
        rw [HE0.out.1, HE0.out.2]
        exact ⟨_, rfl, by rw [← HF.out]; exact O.out.base B.out.size, B.out.trans (Bw.out.mono B.out.size)⟩
  · have HE := Lib.hid (show pairE (chkZ l [i]) (byZ l i) = [] from if_neg he)
    have hne : (chkZ l [i] != 0) = true := bne_iff_ne.2 he
    clear he
    go_wp2_with fail
    go_ret2
    exact ⟨_, rfl, by rw [HE.out]; exact Own.nil, B.out⟩
end Go.Proofs.YteeoecegpnmafaaDoor
