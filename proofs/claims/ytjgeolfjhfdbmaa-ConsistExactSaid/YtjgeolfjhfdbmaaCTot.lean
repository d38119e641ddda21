/-
  Stage 6: the sums of a list: the program and the reference.
-/
import Derived.Test.YtjgeolfjhfdbmaaCRlist
set_option linter.unusedSimpArgs false
set_option linter.unusedVariables false
namespace Go.Proofs.Ytjgeolfjhfdbmaa
open Go.RowKit

def sumF (f : Wag → Int) : List Wag → Int
  | [] => 0
  | x :: l => f x + sumF f l
theorem sumF_app (f : Wag → Int) (l m : List Wag) : sumF f (l ++ m) = sumF f l + sumF f m := by
  induction l with
  | nil => simp [sumF]
  | cons x l ih => show f x + sumF f (l ++ m) = f x + sumF f l + _; rw [ih]; omega
theorem sumF_snoc (f : Wag → Int) (l : List Wag) (x : Wag) : sumF f (l ++ [x]) = sumF f l + f x := by
  rw [sumF_app]; show _ + (f x + 0) = _; omega
theorem sumF_bd {f : Wag → Int} {l : List Wag} (h : ∀ x ∈ l, 0 ≤ f x ∧ f x ≤ 2000) : 0 ≤ sumF f l ∧ sumF f l ≤ 2000 * l.length := by
  induction l with
  | nil => exact ⟨Int.le_refl _, by simp [sumF]⟩
  | cons x l ih =>
    have h1 := ih fun y hy => h y (by simp [hy])
    have h2 := h x (by simp)
    show 0 ≤ f x + sumF f l ∧ f x + sumF f l ≤ _
    rw [List.length_cons]
    omega
theorem wag_bd {x : Wag} (h : validW x = 0) : (0 ≤ x.len ∧ x.len ≤ 2000) ∧ (0 ≤ x.mas ∧ x.mas ≤ 2000) ∧ (0 ≤ x.axl ∧ x.axl ≤ 2000) := by
  obtain ⟨_, h1, h2, _⟩ := validW_parts h
  obtain ⟨r1, r2, r3, r4, _⟩ := h2
  have hk : 0 ≤ leastK (knd (x.num.data.toList.getD 4 48)) := by unfold leastK; split <;> omega
  refine ⟨⟨by omega, by omega⟩, ⟨by omega, by omega⟩, ?_⟩
  rw [h1]
  unfold axlK
  split
  · omega
  · split <;> omega
def totR (l : List Wag) : Int × Int × Int × Int := if validL l = 0 then (sumF Wag.len l, sumF Wag.mas l, sumF Wag.axl l, 0) else (0, 0, 0, validL l)
def TotPost (l : List Wag) (w : World) (e : Ending) (w' : World) : Prop := e = .returned (.tuple #[.int .i64 (totR l).1, .int .i64 (totR l).2.1, .int .i64 (totR l).2.2.1, .int .i64 (totR l).2.2.2]) ∧ Below w.heap.size w w'
theorem TotPost.bad {l : List Wag} {x : Int} {w w' : World} (h : validL l = x) (hx : x ≠ 0) (b : Below w.heap.size w w') : TotPost l w (.returned (.tuple #[.int .i64 0, .int .i64 0, .int .i64 0, .int .i64 x])) w' := by
  unfold TotPost totR
  rw [if_neg (by rw [h]; exact hx), h]
  exact ⟨rfl, b⟩
theorem TotPost.good {l : List Wag} {a b c : Int} {w w' : World} (h : validL l = 0) (ha : a = sumF Wag.len l) (hb : b = sumF Wag.mas l) (hc : c = sumF Wag.axl l) (k : Below w.heap.size w w') : TotPost l w (.returned (.tuple #[.int .i64 a, .int .i64 b, .int .i64 c, .int .i64 0])) w' := by
  unfold TotPost totR
  rw [if_pos h]
  subst ha; subst hb; subst hc
  exact ⟨rfl, k⟩
/-- The sums of the first k of a valid list, and of one more. -/
theorem tot_step {l : List Wag} {k : Nat} {x : Wag} (hx : l[k]? = some x) (ht : l.take (k + 1) = l.take k ++ [x]) (hv : validL l = 0) (f : Wag → Int) (hf : ∀ y, validW y = 0 → 0 ≤ f y ∧ f y ≤ 2000) :
    sumF f (l.take (k + 1)) = sumF f (l.take k) + f x ∧ 0 ≤ sumF f (l.take k) ∧ sumF f (l.take k) ≤ 200000 ∧ 0 ≤ f x ∧ f x ≤ 2000 := by
  obtain ⟨h1, h2, _⟩ := validL_zero.1 hv
  have hb := sumF_bd (f := f) (l := l.take k) fun y hy => hf y (h2 y (List.mem_of_mem_take hy))
  have hl : (l.take k).length ≤ 96 := by rw [List.length_take]; omega
  obtain ⟨g1, g2⟩ := hf x (h2 x (List.mem_of_getElem? hx))
  exact ⟨by rw [ht, sumF_snoc], hb.1, by omega, g1, g2⟩

theorem results_tmp4 {fn : Func} {t u v x : Tmp} (h : fn.results = #[.tmp t, .tmp u, .tmp v, .tmp x]) (tmps : Array Value) (P : Program) (w : World) :
    (results fn tmps).run P w = .ok (.tuple #[tmps.getD t undef, tmps.getD u undef, tmps.getD v undef, tmps.getD x undef]) w := by
  simp [results, h]
set_option maxHeartbeats 1600000 in
theorem ptot_any (l : List Wag) (A : Option Addr) (c : Nat) (w : World) (h : RRow WR w A l) :
    Calls Try.prog 20 #[.slice A l.length c] w (TotPost l w) := by
  have hl : l.length ≤ 9223372036854775807 := h.len
  have H := Lib.hid h
  clear h
  go_enter Try.func20, Try.ntmps20
  go_wp2_with fail
  refine (plist_any l A c w H.out).mono ?_
  rintro e w1 ⟨rfl, B1⟩
  obtain ⟨e, he⟩ : ∃ e, e = validL l := ⟨_, rfl⟩
  have HE := Lib.hid he
  have HB1 := Lib.hid B1
  rw [← he]
  clear he B1
  by_cases h0 : e ≠ 0
  · have ev : (e != 0) = true := bne_iff_ne.2 h0
    have H0 := Lib.hid h0
    clear h0
    go_wp2_with fail
    ((try simp only [Exit.inBlock, Exit.then]); refine bodyPost_ret (results_tmp4 rfl _ _ _) rfl ?_)
    exact TotPost.bad HE.out.symm H0.out HB1.out
  · obtain rfl := Decidable.of_not_not h0
    obtain ⟨L, hL⟩ : ∃ n, n = l.length := ⟨_, rfl⟩
    have HL := Lib.hid hL
    have HR := Lib.hid (H.out.below HB1.out)
    have hl96 : L ≤ 96 := by rw [hL]; exact (validL_zero.1 HE.out.symm).1
    rw [← hL] at hl ⊢
    clear hL h0
    go_wp2_with fail
    go_loopw [15, 2, 3, 4] (fun i va vb vc wr => ∃ k : Nat, k ≤ L ∧ i = .int .i64 k ∧ ∃ a b d : Int, va = .int .i64 a ∧ vb = .int .i64 b ∧ vc = .int .i64 d ∧ Hid (a = sumF Wag.len (l.take k)) ∧ Hid (b = sumF Wag.mas (l.take k)) ∧ Hid (d = sumF Wag.axl (l.take k)) ∧ Hid (Below w.heap.size w wr)) (fun i _ _ _ _ => L - (intOf i).toNat)
    case atStart => exact ⟨0, by omega, rfl, 0, 0, 0, rfl, rfl, rfl, Lib.hid rfl, Lib.hid rfl, Lib.hid rfl, HB1⟩
    case round =>
      clear HR HB1
      obtain ⟨k, hk, rfl, a, b, d, rfl, rfl, rfl, SA, SB, SD, B⟩ := hrel
      by_cases hlt : k < L
      · obtain ⟨x, hx, hd, ht⟩ := drop_ex (l := l) (k := k) (by rw [← HL.out]; exact hlt)
        obtain ⟨ad, rfl, C⟩ := (H.out.below B.out).at_ hx
        obtain ⟨c0, c1, c2, c3, c4, c5, c6, c7⟩ := WSpelt.of C
        obtain ⟨t1, t2, t3, t4, t5⟩ := tot_step hx ht HE.out.symm Wag.len (fun y hy => (wag_bd hy).1)
        obtain ⟨u1, u2, u3, u4, u5⟩ := tot_step hx ht HE.out.symm Wag.mas (fun y hy => (wag_bd hy).2.1)
        obtain ⟨v1, v2, v3, v4, v5⟩ := tot_step hx ht HE.out.symm Wag.axl (fun y hy => (wag_bd hy).2.2)
        rw [← SA.out] at t1 t2 t3
        rw [← SB.out] at u1 u2 u3
        rw [← SD.out] at v1 v2 v3
        have T1 := Lib.hid t1
        have U1 := Lib.hid u1
        have V1 := Lib.hid v1
        have HB := Lib.hid (B.out.alloc B.out.size (.cells #[.string x.num, .int .i64 x.len, .int .i64 x.axl, .int .i64 x.mas, .int .i64 x.brk, .int .i64 x.gds, .bool x.gen, .string x.dst] 30))
        clear hx hd ht C t1 u1 v1 B
        go_wp2_with fail
        go_roundw
        case rel => exact ⟨k + 1, by omega, by go_num, a + x.len, b + x.mas, d + x.axl, rfl, rfl, rfl, Lib.hid T1.out.symm, Lib.hid U1.out.symm, Lib.hid V1.out.symm, HB⟩
        case measure => simp [intOf]; omega
      · obtain rfl : k = L := by omega
        have ga := SA.out
        have gb := SB.out
        have gd := SD.out
        rw [HL.out, List.take_length] at ga gb gd
        have GA := Lib.hid ga
        have GB := Lib.hid gb
        have GD := Lib.hid gd
        clear ga gb gd hlt hk
        go_wp2_with fail
        ((try simp only [Exit.inBlock, Exit.then]); refine bodyPost_ret (results_tmp4 rfl _ _ _) rfl ?_)
        exact TotPost.good HE.out.symm GA.out GB.out GD.out B.out

set_option maxHeartbeats 1600000 in
theorem rtot_any (l : List Wag) (A : Option Addr) (c : Nat) (w : World) (h : RRow WR w A l) (hz : Sz l) :
    Calls Try.prog 21 #[.slice A l.length c] w (TotPost l w) := by
  have hl : l.length ≤ 9223372036854775807 := h.len
  have H := Lib.hid h
  have HZ := Lib.hid hz
  clear h hz
  go_enter Try.func21, Try.ntmps21
  go_wp2_with fail
  refine (rlist_any l A c w H.out HZ.out).mono ?_
  rintro e w1 ⟨rfl, B1⟩
  obtain ⟨e, he⟩ : ∃ e, e = validL l := ⟨_, rfl⟩
  have HE := Lib.hid he
  have HB1 := Lib.hid B1
  rw [← he]
  clear he B1
  by_cases h0 : e ≠ 0
  · have ev : (e != 0) = true := bne_iff_ne.2 h0
    have H0 := Lib.hid h0
    clear h0
    go_wp2_with fail
    ((try simp only [Exit.inBlock, Exit.then]); refine bodyPost_ret (results_tmp4 rfl _ _ _) rfl ?_)
    exact TotPost.bad HE.out.symm H0.out HB1.out
  · obtain rfl := Decidable.of_not_not h0
    obtain ⟨L, hL⟩ : ∃ n, n = l.length := ⟨_, rfl⟩
    have HL := Lib.hid hL
    have hl96 : L ≤ 96 := by rw [hL]; exact (validL_zero.1 HE.out.symm).1
    rw [← hL] at hl ⊢
    clear hL h0
    go_wp2_with fail
    go_loopw [7, 2, 3, 4] (fun i va vb vc wr => ∃ k : Nat, k ≤ L ∧ i = .int .i64 k ∧ ∃ a b d : Int, va = .int .i64 a ∧ vb = .int .i64 b ∧ vc = .int .i64 d ∧ Hid (a = sumF Wag.len (l.take k)) ∧ Hid (b = sumF Wag.mas (l.take k)) ∧ Hid (d = sumF Wag.axl (l.take k)) ∧ Hid (Below w.heap.size w wr)) (fun i _ _ _ _ => L - (intOf i).toNat)
    case atStart => exact ⟨0, by omega, rfl, 0, 0, 0, rfl, rfl, rfl, Lib.hid rfl, Lib.hid rfl, Lib.hid rfl, HB1⟩
    case round =>
      clear HB1
      obtain ⟨k, hk, rfl, a, b, d, rfl, rfl, rfl, SA, SB, SD, B⟩ := hrel
      by_cases hlt : k < L
      · obtain ⟨x, hx, hd, ht⟩ := drop_ex (l := l) (k := k) (by rw [← HL.out]; exact hlt)
        obtain ⟨ad, rfl, C⟩ := (H.out.below B.out).at_ hx
        obtain ⟨c0, c1, c2, c3, c4, c5, c6, c7⟩ := WSpelt.of C
        obtain ⟨t1, t2, t3, t4, t5⟩ := tot_step hx ht HE.out.symm Wag.len (fun y hy => (wag_bd hy).1)
        obtain ⟨u1, u2, u3, u4, u5⟩ := tot_step hx ht HE.out.symm Wag.mas (fun y hy => (wag_bd hy).2.1)
        obtain ⟨v1, v2, v3, v4, v5⟩ := tot_step hx ht HE.out.symm Wag.axl (fun y hy => (wag_bd hy).2.2)
        rw [← SA.out] at t1 t2 t3
        rw [← SB.out] at u1 u2 u3
        rw [← SD.out] at v1 v2 v3
        have T1 := Lib.hid t1
        have U1 := Lib.hid u1
        have V1 := Lib.hid v1
        clear hx hd ht C t1 u1 v1
        go_wp2_with fail
        go_roundw
        case rel => exact ⟨k + 1, by omega, by go_num, a + x.len, b + x.mas, d + x.axl, rfl, rfl, rfl, Lib.hid T1.out.symm, Lib.hid U1.out.symm, Lib.hid V1.out.symm, B⟩
        case measure => simp [intOf]; omega
      · obtain rfl : k = L := by omega
        have ga := SA.out
        have gb := SB.out
        have gd := SD.out
        rw [HL.out, List.take_length] at ga gb gd
        have GA := Lib.hid ga
        have GB := Lib.hid gb
        have GD := Lib.hid gd
        clear ga gb gd hlt hk
        go_wp2_with fail
        ((try simp only [Exit.inBlock, Exit.then]); refine bodyPost_ret (results_tmp4 rfl _ _ _) rfl ?_)
        exact TotPost.good HE.out.symm GA.out GB.out GD.out B.out
end Go.Proofs.Ytjgeolfjhfdbmaa
