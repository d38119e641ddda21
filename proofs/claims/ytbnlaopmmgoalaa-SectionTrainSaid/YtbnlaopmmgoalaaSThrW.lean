/-
  Stage 5: the walk of SectionThrough.
-/
import Derived.Test.YtbnlaopmmgoalaaSDistW
import Derived.Test.YtbnlaopmmgoalaaMkFrom
set_option linter.unusedSimpArgs false
set_option linter.unusedVariables false
namespace Go.Proofs.Ytbnlaopmmgoalaa
open Go.RowKit

theorem five {P : Nat → Prop} (h2 : P 2) (h3 : P 3) (h4 : P 4) (h5 : P 5) (h6 : P 6) {n : Nat} (a : 2 ≤ n) (b : n ≤ 6) : P n := by
  rcases (by omega : n = 2 ∨ n = 3 ∨ n = 4 ∨ n = 5 ∨ n = 6) with rfl | rfl | rfl | rfl | rfl <;> assumption
theorem sen_chn (n : Nat) (s d : Int) (h : (n : Int) ≤ s) : sen (chn n) s d = none := by
  induction n with
  | zero => rfl
  | succ n ih =>
    show sen (chn n ++ [((n : Int), (n : Int), 1), ((n : Int), (n : Int) + 1, -1)]) s d = none
    refine sen_none_app.2 ⟨ih (by omega), ?_⟩
    show (if (n : Int) = s ∧ (n : Int) = d then _ else if (n : Int) = s ∧ (n : Int) + 1 = d then _ else none) = none
    rw [if_neg (by omega), if_neg (by omega)]
theorem bor_chn (n : Nat) (h : n ≤ 31) : Bor (chn n) := by
  induction n with
  | zero => trivial
  | succ n ih =>
    show Bor (chn n ++ [((n : Int), (n : Int), 1), ((n : Int), (n : Int) + 1, -1)])
    have e : chn n ++ [((n : Int), (n : Int), 1), ((n : Int), (n : Int) + 1, -1)] = (chn n ++ [((n : Int), (n : Int), 1)]) ++ [((n : Int), (n : Int) + 1, -1)] := by simp
    rw [e]
    refine bor_snoc (bor_snoc (ih (by omega)) ⟨⟨by show 0 ≤ (n : Int); omega, by show (n : Int) ≤ 31; omega⟩, ⟨by show 0 ≤ (n : Int); omega, by show (n : Int) ≤ 31; omega⟩, Or.inl rfl⟩ (sen_chn n _ _ (Int.le_refl _))) ⟨⟨by show 0 ≤ (n : Int); omega, by show (n : Int) ≤ 31; omega⟩, ⟨by show 0 ≤ (n : Int) + 1; omega, by show (n : Int) + 1 ≤ 31; omega⟩, Or.inr rfl⟩ ?_
    refine sen_none_app.2 ⟨sen_chn n _ _ (Int.le_refl _), sen_one.2 fun e => ?_⟩
    have e2 : (n : Int) = (n : Int) + 1 := e.2
    omega
theorem sb_chn (n : Nat) (d : Int) : sum (sb d) (chn n) = (if d = 0 ∧ 0 < n then 1 else 0) + (if d = n ∧ 0 < n then -1 else 0) := by
  induction n with
  | zero => simp [chn, sum]
  | succ n ih =>
    show sum (sb d) (chn n ++ [((n : Int), (n : Int), 1), ((n : Int), (n : Int) + 1, -1)]) = _
    rw [sum_app, ih]
    show _ + ((if (n : Int) = d then 1 else 0) + ((if (n : Int) + 1 = d then -1 else 0) + 0)) = _
    repeat' split
    all_goals omega
theorem thr_chn {n : Nat} (h1 : 2 ≤ n) (h2 : n ≤ 6) : (thrR (chn n)).1.length + 1 = n ∧ (thrR (chn n)).2 = 0 :=
  five (P := fun n => (thrR (chn n)).1.length + 1 = n ∧ (thrR (chn n)).2 = 0) (by decide) (by decide) (by decide) (by decide) (by decide) h1 h2
theorem thr_at {n : Nat} (h1 : 2 ≤ n) (h2 : n ≤ 6) : ∃ ds : List Int, thrR (chn n) = (ds, 0) ∧ ds.length + 1 = n := by
  have h := thr_chn h1 h2
  exact ⟨(thrR (chn n)).1, by rw [← h.2], h.1⟩
def ThrAt (ds : List Int) (w : World) (e : Ending) (w' : World) : Prop := ∃ v, e = .returned (.tuple #[v, .int .i64 0]) ∧ Own .i64 3 w' w.heap.size v ds ∧ Below w.heap.size w w'
theorem thr_post {l : List Pul} {ds : List Int} (h : thrR l = (ds, 0)) {fn : Nat} {args : Array Value} {w : World} (c : Calls Try.prog fn args w (ThrPost l w)) : Calls Try.prog fn args w (ThrAt ds w) := by
  refine c.mono fun e w' g => ?_
  unfold ThrPost at g
  rw [h] at g
  exact g
/-- A pulse whose detector is turned to one that is through. -/
def tru (m : Int) (x : Pul) : Pul := (1 + x.1 % m, x.2.1, x.2.2)
theorem tru_ok {m : Int} (h1 : 1 ≤ m) (h2 : m ≤ 5) {x : Pul} (h : okP x) : okP (tru m x) := by
  have := Int.emod_nonneg x.1 (show m ≠ 0 by omega)
  have := Int.emod_lt_of_pos x.1 (show 0 < m by omega)
  exact ⟨⟨by show 0 ≤ 1 + x.1 % m; omega, by show 1 + x.1 % m ≤ 31; omega⟩, h.2⟩
theorem run_tru {m : Int} (h1 : 1 ≤ m) (h2 : m ≤ 5) {t : Int} {p : List Pul} (h : run t p) : run t (p.map (tru m)) := by
  induction p generalizing t with
  | nil => trivial
  | cons x p ih => exact ⟨tru_ok h1 h2 h.1, h.2.1, ih h.2.2⟩
theorem bal_tru {n : Nat} {m : Int} (hm : m + 1 = n) (h1 : 1 ≤ m) (x : Pul) : balx (chn n) (tru m x) = 0 := by
  have := Int.emod_nonneg x.1 (show m ≠ 0 by omega)
  have := Int.emod_lt_of_pos x.1 (show 0 < m by omega)
  show x.2.2 * sum (sb (1 + x.1 % m)) (chn n) = 0
  rw [sb_chn, if_neg (by omega), if_neg (by omega)]
  simp
theorem sum_zero {f : Pul → Int} {p : List Pul} (h : ∀ x ∈ p, f x = 0) : sum f p = 0 := by
  induction p with
  | nil => rfl
  | cons x p ih => show f x + sum f p = 0; rw [h x (List.mem_cons_self ..), ih fun y hy => h y (List.mem_cons_of_mem _ hy)]; rfl
theorem balR_tru {n : Nat} {m : Int} (hm : m + 1 = n) (h1 : 1 ≤ m) (h2 : m ≤ 5) {p : List Pul} (hr : run 0 p) (hp : p.length ≤ 30) (k : Nat) : balR (chn n) ((p.map (tru m)).take k) = (0, 0) := by
  have hc : chkR (chn n) ((p.map (tru m)).take k) 0 = 0 := chk_ok (bor_chn n (by omega)) (by rw [chn_len]; omega) (run_take (run_tru h1 h2 hr) k) (by rw [List.length_take, List.length_map]; omega) (by decide) (by decide)
  unfold balR
  rw [if_pos hc, sum_zero fun x hx => ?_]
  obtain ⟨y, _, rfl⟩ := List.mem_map.1 (List.mem_of_mem_take hx)
  exact bal_tru hm h1 y

theorem TOwn.prow {T : TypeId} {w : World} {base n c : Nat} {A : Option Addr} {l : List Pul} (h : TOwn T w base (.slice A n c) l) : PRow w A l := by
  obtain ⟨A', c', e, R, _⟩ := h.full
  injection e with e1
  rw [e1]; exact R
set_option maxRecDepth 100000 in
set_option maxHeartbeats 1600000 in
theorem thr_walk (t : Option Addr) (len cap : Nat) (zs : List Int) (w : World) (h : IsRow .i64 w t len cap zs) :
    Calls Try.prog 6 #[.slice t len cap] w fun e w' => e = .returned (.bool true) ∧ Below w.heap.size w w' := by
  obtain ⟨i0, hi, hz0, hz1, hz2⟩ := info_parts infoPul
  have K0 := Lib.hid (mk_new (T := 58) h)
  clear h
  go_enter Try.func6, Try.ntmps6
  go_wp2_with fail
  refine (new_any t len cap w).mono ?_
  rintro e w1 ⟨rfl, e1⟩
  have HB1 := Lib.hid (show Below w.heap.size w w1 by rw [e1]; exact (Below.refl _ _).alloc (Nat.le_refl _) _)
  have K1 := Lib.hid (show IsMk w1 w.heap.size 0 by rw [e1]; exact K0.out)
  clear e1 K0
  go_wp2_with fail
  refine (from_any w.heap.size 0 2 6 w1 K1.out (by decide) (by decide) (by decide) (by decide)).mono ?_
  rintro e w2 ⟨nv, rfl, n1, n2, K2, M2⟩
  have HB2 := Lib.hid (M2.below HB1.out (Nat.le_refl _) HB1.out.size)
  have HK2 := Lib.hid K2
  obtain ⟨n, rfl⟩ := Int.eq_ofNat_of_zero_le (show 0 ≤ nv by omega)
  clear K2 M2
  go_wp2_with fail
  refine (mchain_any _ n w2 (by omega)).mono ?_
  rintro e w3 ⟨v3, rfl, O3, B3⟩
  have HB3 := Lib.hid (HB2.out.trans (B3.mono HB2.out.size))
  have HK3 := Lib.hid (HK2.out.stays' B3)
  have O3' := O3.base HK2.out.lt
  obtain ⟨A, c, rfl, R, _⟩ := O3'.full
  have hcl := chn_len n
  have HR := Lib.hid R
  obtain ⟨ds, hds, hdn⟩ := thr_at (n := n) (by omega) (by omega)
  obtain ⟨L, hL⟩ : ∃ L, L = (chn n).length := ⟨_, rfl⟩
  have HL := Lib.hid hL
  rw [← hL] at hcl ⊢
  have hll : L ≤ 12 := by omega
  have HOC3 := Lib.hid O3'
  have ct := thr_post hds (pthr_any (chn n) A c w3 HR.out)
  rw [← hL] at ct
  clear hL R O3 O3' B3 hcl
  go_wp2_with fail
  refine ct.mono ?_
  rintro e w4 ⟨v4, rfl, O4, B4⟩
  obtain ⟨A4, c4, rfl, R4, _⟩ := O4.slice
  obtain ⟨T, hT⟩ : ∃ T, T = ds.length := ⟨_, rfl⟩
  rw [← hT] at hdn ⊢
  have hT1 : (n : Int) - 1 = (T : Int) := by omega
  have HB4 := Lib.hid (HB3.out.trans (B4.mono HB3.out.size))
  have HK4 := Lib.hid (HK3.out.stays' B4)
  have HOC := Lib.hid (HOC3.out.below B4)
  have hT2 : 1 ≤ T ∧ T ≤ 5 := by omega
  have HTN := Lib.hid hdn
  clear hds hdn hT R4 O4 B4 HOC3 ct HR
  go_wp2_with fail
  refine (mpulses_any w.heap.size (0 + 1) 30 w4 HK4.out (by decide) (by decide)).mono ?_
  rintro e w5 ⟨v5, p, rfl, O5, hp, hrun, K5, M5⟩
  have HB5 := Lib.hid (M5.below HB4.out (Nat.le_refl _) HB4.out.size)
  obtain ⟨A2, c2, rfl, R2, h1, h2, _⟩ := O5.full
  have HR5 := Lib.hid (show PRow w5 A (chn n) from (HOC.out.moves M5 (by omega)).prow)
  have HR2 := Lib.hid R2
  have HRU := Lib.hid hrun
  have HSZ := Lib.hid (show w.heap.size + 1 ≤ w5.heap.size from K5.lt)
  obtain ⟨P, hP⟩ : ∃ P, P = p.length := ⟨_, rfl⟩
  have HP := Lib.hid hP
  rw [← hP] at hp h1 ⊢
  clear hP R2 O5 K5 M5 HOC HK4 hrun
  go_wp2_with fail
  go_loopw [38, 8] (fun iv ov wr => ∃ k : Nat, k ≤ P ∧ iv = .int .i64 (k : Int) ∧ ∃ q : List Pul, q.length = k ∧ Hid (q = (p.take k).map (tru (T : Int))) ∧ Hid (TOwn 40 wr w5.heap.size ov q) ∧ Hid (Below w5.heap.size w5 wr)) (fun iv _ _ => P - (intOf iv).toNat)
  case atStart => exact ⟨0, by omega, rfl, [], rfl, Lib.hid rfl, Lib.hid TOwn.nil, Lib.hid (Below.refl _ _)⟩
  case round =>
    obtain ⟨k, hk, rfl, q, hql, HQ, O, B⟩ := hrel
    by_cases hlt : k < P
    · obtain ⟨ad, rfl, C⟩ := (HR2.out.below B.out).at_ k (by rw [← HP.out]; exact hlt)
      obtain ⟨⟨d, tt, z⟩, hpk⟩ : ∃ x, x = p.getD k (0, 0, 0) := ⟨_, rfl⟩
      have ht := take_at hpk (by rw [← HP.out]; exact hlt)
      have hx : okP (d, tt, z) := by rw [hpk]; exact run_mem HRU.out _ (getD_memP (by rw [← HP.out]; exact hlt))
      rw [← hpk] at C
      obtain ⟨c0, c1, c2'⟩ := C.spelt
      obtain ⟨d1, d2⟩ := hx.1
      simp only at c0 c1 c2' d1 d2
      obtain ⟨dn, rfl⟩ := Int.eq_ofNat_of_zero_le d1
      have HT := Lib.hid ht
      have hT0 : ((T : Int) == 0) = false := beq_eq_false_iff_ne.2 (by omega)
      have hm1 := Int.emod_nonneg (dn : Int) (show (T : Int) ≠ 0 by omega)
      have hm2 := Int.emod_lt_of_pos (dn : Int) (show 0 < (T : Int) by omega)
      have HKL := Lib.hid hql
      have HKP := Lib.hid (show k ≤ 30 by omega)
      have O1 := O.out.alloc (.cells #[.int .i64 (1 + (dn : Int) % (T : Int)), .int .i64 tt, .int .i64 z] 40)
      unfold TOwn Flat at O1
      rw [hql] at O1
      have HO1 := Lib.hid O1
      have B1 := Lib.hid (B.out.alloc B.out.size (.cells #[.int .i64 (1 + (dn : Int) % (T : Int)), .int .i64 tt, .int .i64 z] 40))
      clear C hpk ht hx hql O1
      go_upto_region 12 with fail
      clear c0 c1 c2' hm1 hm2
      have HN := Lib.hid (news_int (k := .i64) (W := wr.alloc (.cells #[.int .i64 (1 + (dn : Int) % (T : Int)), .int .i64 tt, .int .i64 z] 40)) (T := 40) (ys := flatP [(1 + (dn : Int) % (T : Int), tt, z)]))
      rw [World.size_alloc] at HN
      have HBS := Lib.hid (show w5.heap.size ≤ wr.heap.size + 1 + 1 by have := B.out.size; omega)
      go_wp2_with (first | (at_builtin; refine wpList_append_lies _ rfl (.tmp 49) (.tmp 51) 32 rfl w5.heap.size 40 i0 (.agg #[.int .i64 0, .int .i64 0, .int .i64 0]) 3 24 Try.underlying32 hi hz0 hz1 hz2 rfl (by decide) _ k ((flatP q).map (Value.int .i64)) rfl (World.ownsRow.alloc HO1.out _) ⟨wr.heap.size + 1, 0, none⟩ 1 1 ((flatP [(1 + (dn : Int) % (T : Int), tt, z)]).map (Value.int .i64)) rfl rfl HN.out (one_cells (ys := flatP [(1 + (dn : Int) % (T : Int), tt, z)])) (by decide) (by unfold maxLen; have := HKP.out; omega) (by have := HKP.out; omega) (by simp only [World.size_alloc]; exact HBS.out) _ rfl ?_; intro g cap w7 hown hgr hgb hlt2))
      have AP := Lib.hid (TOwn.app (l := q) (m := [(1 + (dn : Int) % (T : Int), tt, z)]) hown HKL.out.symm rfl)
      have B2 := Lib.hid ((B1.out.alloc B1.out.size (.cells #[.int .i64 (1 + (dn : Int) % (T : Int)), .int .i64 tt, .int .i64 z] 40)).grown hgr (by have := HBS.out; simp; omega) (fun j hj => (O.out.block hj).1))
      clear hown hgr hgb hlt2 HO1
      go_roundw
      case rel => exact ⟨k + 1, by omega, by go_num, q ++ [(1 + (dn : Int) % (T : Int), tt, z)], by rw [List.length_append, HKL.out]; rfl, Lib.hid (by rw [HT.out, List.map_append, ← HQ.out]; rfl), AP, B2⟩
      case measure => simp [intOf]; omega
    · obtain rfl : k = P := by omega
      have HQ2 := Lib.hid (show q = p.map (tru (T : Int)) by rw [HQ.out, List.take_of_length_le (by rw [← HP.out]; omega)])
      obtain ⟨A8, c8, rfl, R8, h81, h82, _⟩ := O.out.full
      have HRA := Lib.hid (HR5.out.below B.out)
      have HR8 := Lib.hid R8
      have HBB := Lib.hid (HB5.out.trans (B.out.mono HB5.out.size))
      rw [hql] at h81
      rw [hql]
      have HBAL := Lib.hid (show ∀ j, balR (chn n) (q.take j) = (0, 0) from fun j => by rw [HQ2.out]; exact balR_tru (m := (T : Int)) (by have := HTN.out; omega) (by omega) (by omega) HRU.out (by rw [← HP.out]; exact hp) j)
      have HQL := Lib.hid hql
      clear R8 O B HR5 HR2 HB5 hql hlt hk
      go_wp2_with fail
      go_loopw [11] (fun iv wr => ∃ j : Nat, j ≤ k + 1 ∧ iv = .int .i64 (j : Int) ∧ Hid (PRow wr A (chn n)) ∧ Hid (PRow wr A8 q) ∧ Hid (Below w.heap.size w wr)) (fun iv _ => k + 1 - (intOf iv).toNat)
      case atStart => exact ⟨0, by omega, rfl, HRA, HR8, HBB⟩
      case round =>
        clear HRA HR8 HBB
        obtain ⟨j, hj, rfl, R, R8, B⟩ := hrel
        by_cases hjk : j ≤ k
        · have hjc : (j : Int) ≤ (c8 : Int) := by omega
          have hkl : (q.take j).length = j := by rw [List.length_take, HQL.out]; omega
          have ca := pbal_any (chn n) (q.take j) A A8 c c8 wr R.out (R8.out.take j)
          rw [hkl, ← HL.out, HBAL.out] at ca
          have HCA := Lib.hid ca
          clear ca hkl
          go_wp2_with fail
          refine HCA.out.mono ?_
          rintro e w9 ⟨rfl, B9⟩
          have R' := Lib.hid (R.out.below B9)
          have R8' := Lib.hid (R8.out.below B9)
          have B' := Lib.hid (B.out.trans (B9.mono B.out.size))
          clear HCA B9 R R8 B
          go_wp2_with fail
          go_roundw
          case rel => exact ⟨j + 1, by omega, by go_num, R', R8', B'⟩
          case measure => simp [intOf]; omega
        · obtain rfl : j = k + 1 := by omega
          clear hjk hj
          go_wp2_with fail
          refine (sane_any wr).mono ?_
          rintro e w9 ⟨rfl, B9⟩
          have B' := Lib.hid (B.out.trans (B9.mono B.out.size))
          clear B9
          go_wp2_with fail
          go_ret
          exact ⟨rfl, B'.out⟩
end Go.Proofs.Ytbnlaopmmgoalaa
