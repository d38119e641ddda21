/-
  Stage 13: the walk of LeastcodeBounds.
-/
import Derived.Test.YtcplanafcnnodaaYCha
set_option linter.unusedSimpArgs false
set_option linter.unusedVariables false
namespace Go.Proofs.Ytcplanafcnnodaa
open Go.RowKit Go.Lib

/-- The greatest of 0 and the first k. -/
def mx0 (v : List Int) : Nat → Int
  | 0 => 0
  | k + 1 => max2 (mx0 v k) (v.getD k 0)
theorem mx0_le (v : List Int) : ∀ k, (0 ≤ mx0 v k) ∧ ∀ y, y < k → v.getD y 0 ≤ mx0 v k := by
  intro k
  induction k with
  | zero => exact ⟨Int.le_refl _, fun y hy => by cases hy⟩
  | succ k ih =>
    obtain ⟨i1, i2⟩ := ih
    have e : mx0 v (k + 1) = if mx0 v k < v.getD k 0 then v.getD k 0 else mx0 v k := rfl
    refine ⟨by rw [e]; split <;> omega, fun y hy => ?_⟩
    rcases Nat.lt_or_ge y k with g | g
    · have := i2 y g; rw [e]; split <;> omega
    · obtain rfl : y = k := by omega
      rw [e]; split <;> omega
theorem mx0_top {v : List Int} {y : Nat} (h : IsTop v y) (hv : ∀ y, 0 ≤ v.getD y 0) : mx0 v v.length = v.getD y 0 := by
  have h1 := (mx0_le v v.length).2 y h.lt
  have h2 : ∀ k, k ≤ v.length → mx0 v k ≤ v.getD y 0 := by
    intro k
    induction k with
    | zero => intro _; exact hv y
    | succ k ih =>
      intro hk
      have := ih (by omega)
      have := h.le k (by omega)
      show max2 (mx0 v k) (v.getD k 0) ≤ _
      unfold max2; split <;> omega
  have := h2 v.length (Nat.le_refl _)
  omega
/-- What Bound answers of a chain of a job that has least codes. -/
theorem bound_le {l : List It} {wt : Int} {bs v : List Int} (hv : validR l wt = 0) (h : Sol l wt bs v) (cs : List Int) : ((boundE l wt cs).2 = 0 ∧ (boundE l wt cs).1 ≤ mx0 v v.length) ∨ (boundE l wt cs).2 = 1 := by
  unfold boundE
  rw [if_neg (fun g => g hv)]
  cases hc : chB l none cs with
  | false => right; rw [if_neg (by decide)]
  | true =>
    rw [if_pos rfl]
    obtain ⟨d, rfl, hd⟩ := chB_iff.1 hc
    rw [map_toZ]
    obtain ⟨k, hk, _, h3⟩ := bnd_le (formOk_of hv) h (most := mx0 v v.length) (fun y hy => (mx0_le v v.length).2 y (by rw [h.vlen]; exact hy)) d none 0 hd (Int.le_refl _) (mx0_le v _).1 (fun _ => rfl) (fun x e => by cases e)
    rw [hk]
    exact Or.inl ⟨rfl, h3⟩
theorem bound_wit {l : List It} {wt er : Int} {zs : List Int} {bs v : List Int} (hv : validR l wt = 0) (h : Sol l wt bs v) (hw : WitR l wt zs er) : er = 0 ∧ boundE l wt zs = (mx0 v v.length, 0) := by
  have hf := formOk_of hv
  rcases hw.valid hv with ⟨_, _, hno⟩ | ⟨rfl, bs', v', h', hz⟩
  · exact absurd h (hno _ _)
  · obtain ⟨rfl, rfl⟩ := h'.uniq hf.blk h
    refine ⟨rfl, ?_⟩
    unfold boundE
    rw [if_neg (fun g => g hv)]
    rcases hz with ⟨h0, rfl⟩ | ⟨y, ch, hy, hb, rfl⟩
    · have e : v'.length = 0 := by rw [h.vlen, h0]
      rw [e]; rfl
    · obtain ⟨b1, b2⟩ := hb.bound hf h (by rw [← h.vlen]; exact hy.lt)
      rw [if_pos (chB_iff.2 ⟨ch, rfl, b1⟩), map_toZ, b2, mx0_top hy (fun y => (h.bound hf y).1.1)]
set_option maxRecDepth 100000 in
set_option maxHeartbeats 3200000 in
theorem bou_walk (A : Option Addr) (c : Nat) (zs : List Int) (w : World) (hr : Row .i64 w w.heap.size A zs) (hm : zs.length ≤ maxLen) (hw : ∀ n ∈ zs, (Lit.int .i64 n).wf = true) :
    Calls Try.prog 9 #[.slice A zs.length c] w fun e w' => e = .returned (.bool true) ∧ Below w.heap.size w w' := by
  have K := Lib.hid (mk_row (c := c) (T := 65) hr hm hw)
  have B := Lib.hid ((Below.refl w.heap.size w).alloc (Nat.le_refl _) (.cells #[.slice A zs.length c, .int .i64 0] 65))
  clear hr hw
  go_enter Try.func9, Try.ntmps9
  go_wp2_with fail
  refine (new_any A zs.length c w).mono ?_
  rintro e w1 ⟨rfl, hw1⟩
  rw [← hw1] at K B
  clear hw1 hm
  go_wp2_with fail
  refine mjob_start w w1 16 (by omega) K.out B.out ?_
  intro jA jc l wt w2 hl hlt hS
  obtain ⟨b, hb⟩ : ∃ b, b = w2.heap.size := ⟨_, rfl⟩
  have S := Lib.hid (hS b hb)
  clear K B hS hlt
  go_upto_region 3 with fail
  rw [← hb]
  generalize w2.alloc (.cells #[.slice jA l.length jc, .int .i64 wt] 24) = w3 at *
  clear hb
  obtain ⟨L, hL⟩ : ∃ n, n = l.length := ⟨_, rfl⟩
  have HL := Lib.hid hL
  have HC := Lib.hid (fun (W : World) (k : IRow W jA l) => least_any l jA jc L wt hL W k)
  have HWI := Lib.hid (fun (W : World) (k : IRow W jA l) => witness_any l jA jc L wt hL W k)
  have HBO := Lib.hid (fun (n cc : Nat) (C : Option Addr) (cs : List Int) (hn : n = cs.length) (hm : n ≤ maxLen) (W : World) (k : IRow W jA l) (hc : Row .i64 W W.heap.size C cs) => bound_any l jA C jc cc L n wt hL cs hn hm W k hc)
  have HCH := Lib.hid (fun (N : Nat) (hN : N ≤ 1000000) (W : World) (k : IsMk W w.heap.size N) (hi : IOwn 26 W (w.heap.size + 1) (.slice jA l.length jc) l) => chain13_any l jA jc L w.heap.size N wt hL (by omega) W k hN hi)
  have J := S.out.box
  rw [← hL] at J hl ⊢
  obtain ⟨j0, j1, jl⟩ := J
  clear hL
  go_wp2_with fail
  refine (HC.out w3 S.out.irow).mono ?_
  rintro e w4 ⟨st, pA, pn, pc, er, v, rfl, O, B4, hr⟩
  have HR := Lib.hid (hr.valid S.out.val)
  obtain ⟨g1, hg1⟩ : ∃ g, g = w4.heap.size := ⟨_, rfl⟩
  have P1 := Lib.hid (PSt.new (st := st) (m := w.heap.size) O (Nat.lt_trans S.out.lt S.out.box.lt) g1 hg1 (by rw [hg1]; exact Nat.lt_of_lt_of_le (Nat.lt_trans S.out.lt S.out.box.lt) B4.size))
  have BX := (Below.refl w4.heap.size w4).alloc (Nat.le_refl _) (.cells #[.int .i64 st, .slice pA pn pc] 29)
  have S4 := Lib.hid ((S.out.below B4).below BX)
  clear j0 j1 jl S O B4 hr BX
  go_upto_region 4 with fail
  rw [← hg1]
  generalize w4.alloc (.cells #[.int .i64 st, .slice pA pn pc] 29) = w5 at *
  clear hg1
  have HSN := Lib.hid (fun W => sane13_any W)
  rcases HR.out with ⟨rfl, rfl, rfl, _⟩ | ⟨rfl, bs, hsol, _⟩
  · clear HR
    go_wp2_with fail
    refine (HSN.out w5).mono ?_
    rintro e wz ⟨rfl, BZ⟩
    have HZ := Lib.hid (S4.out.bel.trans (BZ.mono S4.out.bel.size))
    clear BZ HSN
    go_wp2_with fail
    go_ret
    exact ⟨rfl, HZ.out⟩
  · have HSOL := Lib.hid hsol
    have hpn : pn = L := by rw [P1.out.len, hsol.vlen, HL.out]
    have hvl : v.length = L := by rw [hsol.vlen, HL.out]
    have HVL := Lib.hid hvl
    subst hpn
    clear HR hsol hvl
    obtain ⟨p0, p1, -, pl⟩ := P1.out.box
    go_wp2_with fail
    clear p0 p1 pl
    go_loopw [7, 37] (fun mv iv wr => ∃ k : Nat, k ≤ pn ∧ iv = .int .i64 (k : Int) ∧ mv = .int .i64 (mx0 v k) ∧ Hid (wr = w5)) (fun _ iv _ => pn - (intOf iv).toNat)
    case atStart => exact ⟨0, by omega, rfl, rfl, Lib.hid rfl⟩
    case round =>
      obtain ⟨k, hk, rfl, rfl, HW⟩ := hrel
      obtain rfl := HW.out
      by_cases hlt : k < pn
      · obtain ⟨pad, rfl, _, cp⟩ := P1.out.row.1 k (by rw [HVL.out]; exact hlt)
        have hki : (k : Int) < (pn : Int) := by omega
        have HN := Lib.hid (show max2 (mx0 v k) (v.getD k 0) = mx0 v (k + 1) from rfl)
        generalize v.getD k 0 = vk0 at *
        obtain ⟨m0, hm0⟩ : ∃ m, m = mx0 v k := ⟨_, rfl⟩
        rw [← hm0] at HN ⊢
        obtain ⟨m2, hm2⟩ : ∃ m, m = max2 m0 vk0 := ⟨_, rfl⟩
        have hmx : ∀ w ts t, (Builtin.max_ ts t #[.int .i64 m0, .int .i64 vk0]).run Try.prog w = .ok (.int .i64 m2) w := fun w ts t => by rw [run_max2, hm2]
        have HN2 := Lib.hid (show m2 = mx0 v (k + 1) by rw [hm2]; exact HN.out)
        clear hm0 hm2 HN
        go_wp2_with fail
        go_roundw
        case rel => exact ⟨k + 1, by omega, by go_num, by rw [HN2.out], Lib.hid trivial⟩
        case measure => simp [intOf]; omega
      · have hkp : k = pn := by omega
        subst hkp
        have HMX := Lib.hid (show mx0 v v.length = mx0 v k by rw [HVL.out])
        obtain ⟨mm, hmm⟩ : ∃ m, m = mx0 v k := ⟨_, rfl⟩
        rw [← hmm] at HMX ⊢
        have J := S4.out.box
        rw [← HL.out] at J
        obtain ⟨j0, j1, jl⟩ := J
        clear hmm hlt hk
        go_wp2_with fail
        refine (HWI.out wr S4.out.irow).mono ?_
        rintro e w6 ⟨u, er, cs, rfl, O6, B6, hw6⟩
        obtain ⟨rfl, hbw⟩ := bound_wit S4.out.val HSOL.out hw6
        obtain ⟨uA, uc, rfl, UR, -, hum, -⟩ := O6.slice
        have S6 := Lib.hid (S4.out.below B6)
        have HBB := Lib.hid (HBO.out cs.length uc uA cs rfl hum w6 S6.out.irow UR)
        rw [hbw, HMX.out] at HBB
        have J := S6.out.box
        rw [← HL.out] at J
        clear j0 j1 jl O6 hw6 B6 UR hum hbw
        obtain ⟨j0, j1, jl⟩ := J
        generalize cs.length = un at *
        go_wp2_with fail
        refine HBB.out.mono ?_
        rintro e w7 ⟨rfl, B7⟩
        have S7 := Lib.hid (S6.out.below B7)
        have hne : (mm != mm) = false := by simp
        clear j0 j1 jl B7 S6 HBB
        go_wp2_with fail
        clear hne
        go_loopw [14] (fun iv wi => ∃ (i M : Nat), i ≤ 5 ∧ iv = .int .i64 (i : Int) ∧ M ≤ 100 + 60 * i ∧ Hid (JM w wi b jA jc l wt M)) (fun iv _ => 5 - (intOf iv).toNat)
        case atStart => exact ⟨0, 5 + 5 * 16, by omega, rfl, by omega, S7⟩
        case round =>
          clear S7
          obtain ⟨i, M, hi, rfl, hM, S8⟩ := hrel
          by_cases hlt : i < 5
          · have J := S8.out.box
            rw [← HL.out] at J
            obtain ⟨j0, j1, jl⟩ := J
            go_wp2_with fail
            refine (HCH.out M (by omega) _ S8.out.mkr S8.out.own).mono ?_
            rintro e w9 ⟨u, d, rfl, O9, hd, hdl, k9, v9⟩
            obtain ⟨uA2, uc2, rfl, UR, -, hum, -⟩ := O9.slice
            have S9 := Lib.hid (S8.out.step v9 k9)
            have hbl := bound_le S9.out.val HSOL.out (toZ d)
            have HBB := Lib.hid (HBO.out (toZ d).length uc2 uA2 (toZ d) rfl hum w9 S9.out.irow UR)
            obtain ⟨⟨bb, be⟩, hbe⟩ : ∃ t, t = boundE l wt (toZ d) := ⟨_, rfl⟩
            rw [← hbe] at HBB hbl
            rw [HMX.out] at hbl
            have HBL := Lib.hid hbl
            have J := S9.out.box
            rw [← HL.out] at J
            clear j0 j1 jl O9 hd UR hum hbe hbl k9 v9 S8
            obtain ⟨j0, j1, jl⟩ := J
            rw [toZ_len] at HBB ⊢
            generalize d.length = dn at *
            go_wp2_with fail
            refine HBB.out.mono ?_
            rintro e w10 ⟨rfl, B10⟩
            have S10 := Lib.hid (S9.out.below B10)
            clear j0 j1 jl B10 S9 HBB
            rcases HBL.out with ⟨h1, h2⟩ | h1
            · have h1' : be = 0 := h1
              have h2' : ¬ mm < bb := by have : bb ≤ mm := h2; omega
              subst h1'
              clear h1 h2 HBL
              go_wp2_with fail
              go_roundw
              case rel => exact ⟨i + 1, M + 3 * k, by omega, by go_num, by omega, S10⟩
              case measure => simp [intOf]; omega
            · have h1' : be = 1 := h1
              subst h1'
              clear h1 HBL
              go_wp2_with fail
              go_roundw
              case rel => exact ⟨i + 1, M + 3 * k, by omega, by go_num, by omega, S10⟩
              case measure => simp [intOf]; omega
          · go_wp2_with fail
            refine (HSN.out _).mono ?_
            rintro e wz ⟨rfl, BZ⟩
            have HZ := Lib.hid (S8.out.bel.trans (BZ.mono S8.out.bel.size))
            clear BZ
            go_wp2_with fail
            go_ret
            exact ⟨rfl, HZ.out⟩
theorem bou_law (a : Option Addr) (len cap : Nat) (zs : List Int) (w : World) (h : IsRow .i64 w a len cap zs) :
    Calls Try.prog 9 #[.slice a len cap] w fun e w' => e = .returned (.bool true) ∧ Below w.heap.size w w' := by
  obtain ⟨l, rfl, h1, h2, h3⟩ := h.row
  exact bou_walk a cap l w h1 h2 h3
end Go.Proofs.Ytcplanafcnnodaa
