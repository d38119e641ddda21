/-
  Stage 7: the walk of WheelLeast.
-/
import Derived.Test.YtgiodpepjajlmaaWCheap
import Derived.Test.YtgiodpepjajlmaaWSane
import Derived.Test.YtgiodpepjajlmaaMkFrom
set_option linter.unusedSimpArgs false
set_option linter.unusedVariables false
namespace Go.Proofs.Ytgiodpepjajlmaa
open Go.RowKit

def In6 (l : List Int) : Prop := ∀ z ∈ l, 1 ≤ z ∧ z ≤ 6
theorem In6.snoc {l : List Int} {z : Int} (h : In6 l) (h1 : 1 ≤ z) (h2 : z ≤ 6) : In6 (l ++ [z]) := fun y hy => by
  rcases List.mem_append.1 hy with hy | hy
  · exact h y hy
  · obtain rfl := List.mem_singleton.1 hy; exact ⟨h1, h2⟩
theorem In6.ok {l : List Int} (h : In6 l) : okD l = true := by
  unfold okD
  exact List.all_eq_true.2 fun z hz => decide_eq_true (by have := h z hz; omega)
theorem least_err {d : List Int} {ps : List (List Int)} (h : In6 d) (hl : d.length ≤ 6) (hp : ∀ p ∈ ps, In6 p ∧ p.length ≤ 2) (hpl : ps.length ≤ 3) : recErr d ps 3 = 0 := by
  unfold recErr
  rw [if_neg, if_pos]
  · exact ⟨h.ok, by decide, List.all_eq_true.2 fun p hpp => (hp p hpp).1.ok⟩
  · rintro (g | g | g)
    · omega
    · omega
    · obtain ⟨p, hpp, g⟩ := List.any_eq_true.1 g
      have := (hp p hpp).2
      have := of_decide_eq_true g
      omega
theorem own_rowT {w : World} {base : Nat} {A : Option Addr} {n c : Nat} {zs : List Int} (h : Own .i64 3 w base (.slice A n c) zs) : Row .i64 w w.heap.size A zs := by
  obtain ⟨A', c', e, R, _⟩ := h.slice
  injection e with e _ _; subst e; exact R
theorem pp_of {w : World} (g : Nat) (hg : g < w.heap.size) (ds : List (Option Addr × Nat × Nat)) (ps : List (List Int)) (hc : ∀ (k : Nat) d, ds[k]? = some d → w.cell? ⟨g, k, none⟩ = some (dsc d))
    (h : ∀ (k : Nat) p, ps[k]? = some p → ∃ a c, ds[k]? = some (a, p.length, c) ∧ Row .i64 w w.heap.size a p ∧ p.length ≤ maxLen) : PP w (some ⟨g, 0, none⟩) ps := fun k p hk => by
  obtain ⟨a, c, h1, h2, h3⟩ := h k p hk
  exact ⟨_, rfl, hg, a, c, by rw [add_own]; exact hc k _ h1, h2, h3⟩
theorem path_pos {d : List Int} {ps : List (List Int)} {tol : Int} {z : Int × Nat} (h : (tb ps tol d).getD 0 none = some z) : 0 < ((recPath d ps tol).map Int.ofNat).length := by
  unfold recPath
  rw [pth_step (by omega) h]; simp
set_option maxRecDepth 100000 in
set_option maxHeartbeats 6400000 in
theorem least_walk (a : Option Addr) (len cap : Nat) (zs : List Int) (w : World) (h : IsRow .i64 w a len cap zs) :
    Calls Try.prog 9 #[.slice a len cap] w fun e w' => e = .returned (.bool true) ∧ Below w.heap.size w w' := by
  have HK0 := Lib.hid (mk_new (T := 59) h)
  have HB0 := Lib.hid (box1W w (.cells #[.slice a len cap, .int .i64 0] 59))
  clear h
  go_enter Try.func9, Try.ntmps9
  go_wp2_with fail
  refine (new_any a len cap w).mono ?_
  rintro e w1 ⟨rfl, rfl⟩
  go_wp2_with fail
  refine (next_any w.heap.size 0 7 _ HK0.out (by decide) (by decide) (by decide)).mono ?_
  rintro e w2 ⟨v, rfl, v0, v6, k2, m2⟩
  obtain ⟨n0, rfl⟩ := Int.eq_ofNat_of_zero_le v0
  have HB2 := Lib.hid (Moves.below HB0.out m2 (Nat.le_refl _) HB0.out.size)
  have HK2 := Lib.hid k2
  clear k2 m2 HK0 HB0 v0
  go_wp2_with fail
  go_loopw [4, 5] (fun dv nv wr => ∃ (l : List Int) (k N : Nat), nv = .int .i64 (k : Int) ∧ l.length + k ≤ 6 ∧ N + k ≤ 10 ∧ Hid (In6 l) ∧ Hid (Own .i64 3 wr (w.heap.size + 1) dv l) ∧ Hid (IsMk wr w.heap.size N) ∧ Hid (Below w.heap.size w wr)) (fun _ nv _ => (intOf nv).toNat)
  case atStart => exact ⟨[], n0, 1, rfl, by simp; omega, by omega, Lib.hid (fun z hz => by cases hz), Lib.hid Own.nil, HK2, HB2⟩
  case round =>
    clear HK2 HB2
    obtain ⟨l, k, N, rfl, hk, hN, G, O, K, B⟩ := hrel
    have hmw := K.out.lt
    by_cases hk0 : 0 < k
    · have hk1 : (0 : Int) < (k : Int) := by omega
      have HLN := Lib.hid (show l.length + 1 ≤ 1000000000 by omega)
      go_wp2_with fail
      refine (from_any w.heap.size N 1 6 _ K.out (by omega) (by decide) (by decide) (by decide)).mono ?_
      rintro e w3 ⟨y, rfl, y1, y2, k3, m3⟩
      have O3 := Lib.hid (O.out.moves m3 (Nat.lt_succ_self w.heap.size))
      have K3 := Lib.hid k3
      have B3 := Lib.hid (Moves.below B.out m3 (Nat.le_refl _) B.out.size)
      have G3 := Lib.hid (G.out.snoc y1 y2)
      have hms : w.heap.size + 1 ≤ w3.heap.size := k3.lt
      have HMS := Lib.hid hms
      clear k3 m3 O K B G
      go_wp2_with (first | (at_builtin; refine wpList_appI _ rfl (.tmp 19) (.tmp 22) rfl (w.heap.size + 1) _ l rfl (O3.out.alloc _) y w3 rfl _ rfl 1 rfl HLN.out (le_allocW HMS.out) ?_; intro v5 w5 A5))
      have O5 := Lib.hid A5.1
      have B5 := Lib.hid ((B3.out.alloc B3.out.size (.cells #[.int .i64 y] 3)).grown A5.2.1 (le_allocW B3.out.size) (fun j hj => by have := (own_block O3.out hj).1; omega))
      have K5 := Lib.hid (IsMk.grown (K3.out.alloc (.cells #[.int .i64 y] 3)) A5.2.1 (fun j hj => by have := (own_block O3.out hj).1; omega))
      clear A5
      go_roundw
      case rel => exact ⟨l ++ [y], k - 1, N + 1, by congr 1; omega, by rw [List.length_append]; simp; omega, by omega, G3, O5, K5, B5⟩
      case measure => simp [intOf] <;> omega
    · obtain rfl : k = 0 := by omega
      have e0 : ((0 : Nat) : Int) = 0 := rfl
      have HG := Lib.hid G.out
      have hl6 : l.length ≤ 6 := by omega
      obtain ⟨DA, dc, rfl, -⟩ := OwnI.read O.out
      rw [e0]
      clear e0 hk hk0
      go_wp2_with fail
      refine (from_any w.heap.size N 1 6 _ K.out (by omega) (by decide) (by decide) (by decide)).mono ?_
      rintro e w3 ⟨x1, rfl, x11, x12, k3, m3⟩
      have O3 := Lib.hid (O.out.moves m3 (Nat.lt_succ_self w.heap.size))
      have K3 := Lib.hid k3
      have B3 := Lib.hid (Moves.below B.out m3 (Nat.le_refl _) B.out.size)
      have hm3 : w.heap.size < w3.heap.size := k3.lt
      clear k3 m3 O K B G
      go_wp2_with fail
      have P3 : Hid (Own .i64 3 (w3.alloc (.cells #[.int .i64 x1] 3)) w3.heap.size (.slice (some ⟨w3.heap.size, 0, none⟩) 1 1) [x1]) := Lib.hid (Own.laid (k := .i64) (T := 3) w3 w3.heap.size (Nat.le_refl _) [x1] 1 rfl (by decide))
      have O3' := Lib.hid (O3.out.alloc (.cells #[.int .i64 x1] 3))
      have B3' := Lib.hid (B3.out.alloc B3.out.size (.cells #[.int .i64 x1] 3))
      refine (from_any w.heap.size (N + 1) 1 6 _ (K3.out.alloc _) (by omega) (by decide) (by decide) (by decide)).mono ?_
      rintro e w4 ⟨x2, rfl, x21, x22, k4, m4⟩
      have O4 := Lib.hid (O3'.out.moves m4 (Nat.lt_succ_self w.heap.size))
      have P4 := Lib.hid (P3.out.moves m4 hm3)
      have B4 := Lib.hid (Moves.below B3'.out m4 (Nat.le_refl _) B3'.out.size)
      have K4 := Lib.hid k4
      clear k4 m4 O3 O3' P3 B3 B3' K3
      go_wp2_with fail
      refine (from_any w.heap.size (N + 1 + 1) 1 6 _ K4.out (by omega) (by decide) (by decide) (by decide)).mono ?_
      rintro e w5 ⟨x3, rfl, x31, x32, k5, m5⟩
      have O5 := Lib.hid (O4.out.moves m5 (Nat.lt_succ_self w.heap.size))
      have P5 := Lib.hid (P4.out.moves m5 hm3)
      have B5 := Lib.hid (Moves.below B4.out m5 (Nat.le_refl _) B4.out.size)
      have K5 := Lib.hid k5
      have hm5 : w.heap.size < w5.heap.size := k5.lt
      clear k5 m5 O4 P4 B4 K4
      go_wp2_with fail
      have Q6 : Hid (Own .i64 3 (w5.alloc (.cells #[.int .i64 x2, .int .i64 x3] 3)) w5.heap.size (.slice (some ⟨w5.heap.size, 0, none⟩) 2 2) [x2, x3]) := Lib.hid (Own.laid (k := .i64) (T := 3) w5 w5.heap.size (Nat.le_refl _) [x2, x3] 2 rfl (by decide))
      have P6 := Lib.hid (P5.out.alloc (.cells #[.int .i64 x2, .int .i64 x3] 3))
      have Q7 := Lib.hid (Q6.out.alloc (.cells #[.slice (some ⟨w3.heap.size, 0, none⟩) 1 1, .slice (some ⟨w5.heap.size, 0, none⟩) 2 2, .slice none 0 0] 22))
      have P7 := Lib.hid (P6.out.alloc (.cells #[.slice (some ⟨w3.heap.size, 0, none⟩) 1 1, .slice (some ⟨w5.heap.size, 0, none⟩) 2 2, .slice none 0 0] 22))
      have hC7 := cell_new (w5.alloc (.cells #[.int .i64 x2, .int .i64 x3] 3)) #[.slice (some ⟨w3.heap.size, 0, none⟩) 1 1, .slice (some ⟨w5.heap.size, 0, none⟩) 2 2, .slice none 0 0] 22
      have hS7 : (w5.alloc (.cells #[.int .i64 x2, .int .i64 x3] 3)).heap.size = w5.heap.size + 1 := by simp
      rw [hS7] at hC7
      have O7 := Lib.hid ((O5.out.alloc (.cells #[.int .i64 x2, .int .i64 x3] 3)).alloc (.cells #[.slice (some ⟨w3.heap.size, 0, none⟩) 1 1, .slice (some ⟨w5.heap.size, 0, none⟩) 2 2, .slice none 0 0] 22))
      have B7 := Lib.hid ((B5.out.alloc B5.out.size (.cells #[.int .i64 x2, .int .i64 x3] 3)).alloc (le_allocW B5.out.size) (.cells #[.slice (some ⟨w3.heap.size, 0, none⟩) 1 1, .slice (some ⟨w5.heap.size, 0, none⟩) 2 2, .slice none 0 0] 22))
      have K7 := Lib.hid ((K5.out.alloc (.cells #[.int .i64 x2, .int .i64 x3] 3)).alloc (.cells #[.slice (some ⟨w3.heap.size, 0, none⟩) 1 1, .slice (some ⟨w5.heap.size, 0, none⟩) 2 2, .slice none 0 0] 22))
      obtain ⟨w7, hw7⟩ : ∃ w7, w7 = (w5.alloc (.cells #[.int .i64 x2, .int .i64 x3] 3)).alloc (.cells #[.slice (some ⟨w3.heap.size, 0, none⟩) 1 1, .slice (some ⟨w5.heap.size, 0, none⟩) 2 2, .slice none 0 0] 22) := ⟨_, rfl⟩
      have hgw : w5.heap.size + 1 < w7.heap.size := by rw [hw7]; simp
      rw [← hw7] at O7 B7 K7 hC7 P7 Q7 ⊢
      obtain ⟨g, hg⟩ : ∃ g, g = w5.heap.size + 1 := ⟨_, rfl⟩
      rw [← hg] at hC7 hgw ⊢
      have hgm : w.heap.size < g := by omega
      have HC7 := Lib.hid hC7
      have HIN := Lib.hid (show ∀ p ∈ ([[x1], [x2, x3], []] : List (List Int)), In6 p ∧ p.length ≤ 2 from fun p hp => by
        simp at hp
        rcases hp with rfl | rfl | rfl
        · exact ⟨fun z hz => (by simp at hz; subst hz; exact ⟨x11, x12⟩), by simp⟩
        · exact ⟨fun z hz => (by simp at hz; rcases hz with rfl | rfl; exact ⟨x21, x22⟩; exact ⟨x31, x32⟩), by simp⟩
        · exact ⟨fun z hz => (by cases hz), by simp⟩)
      clear hC7 hS7 hw7 hg O5 P5 P6 Q6 B5 K5 x11 x12 x21 x22 x31 x32
      refine (next_any w.heap.size (N + 1 + 1 + 1) 2 _ K7.out (by omega) (by decide) (by decide)).mono ?_
      rintro e w8 ⟨u, rfl, u0, u1, k8, m8⟩
      have O8 := Lib.hid (O7.out.moves m8 (Nat.lt_succ_self w.heap.size))
      have B8 := Lib.hid (Moves.below B7.out m8 (Nat.le_refl _) B7.out.size)
      have P8 := Lib.hid (P7.out.moves m8 hm3)
      have Q8 := Lib.hid (Q7.out.moves m8 hm5)
      have HP8 := Lib.hid (pp_of (w := w8) g (Nat.lt_of_lt_of_le hgw m8.size) [(some ⟨w3.heap.size, 0, none⟩, 1, 1), (some ⟨w5.heap.size, 0, none⟩, 2, 2), (none, 0, 0)] [[x1], [x2, x3], []]
        (fun k d hk => by
          rw [m8.cell (p := ⟨g, k, none⟩) hgw (show g ≠ w.heap.size by omega), HC7.out]
          match k, hk with
          | 0, hk => injection hk with hk; subst hk; rfl
          | 1, hk => injection hk with hk; subst hk; rfl
          | 2, hk => injection hk with hk; subst hk; rfl)
        (fun k p hk => by
          match k, hk with
          | 0, hk => injection hk with hk; subst hk; exact ⟨_, _, rfl, own_rowT P8.out, by show 1 ≤ maxLen; decide⟩
          | 1, hk => injection hk with hk; subst hk; exact ⟨_, _, rfl, own_rowT Q8.out, by show 2 ≤ maxLen; decide⟩
          | 2, hk => injection hk with hk; subst hk; exact ⟨_, _, rfl, Row.nil, by decide⟩))
      clear k8 m8 O7 B7 K7 HC7 P7 Q7 P8 Q8 hm3 hm5 hgw hgm
      by_cases hu : u = 0
      · subst hu
        have HER := Lib.hid (least_err (d := l) (ps := [[x1], [x2, x3]]) HG.out hl6 (fun p hp => HIN.out p (List.mem_of_mem_take (i := 2) hp)) (by show 2 ≤ 3; decide))
        have HPQ := Lib.hid (show PP w8 (some ⟨g, 0, none⟩) [[x1], [x2, x3]] from HP8.out.take 2)
        have p1 := prec_any l [[x1], [x2, x3]] 3 DA (some ⟨g, 0, none⟩) dc 3 w8 (own_rowT O8.out) (by unfold maxLen; omega) (by obtain ⟨A', c', e, _, h, _⟩ := O8.out.slice; injection e with _ _ e; omega) HPQ.out (by show 2 ≤ maxLen; decide)
        have e2 : ([[x1], [x2, x3]] : List (List Int)).length = 2 := rfl
        rw [e2] at p1
        have HD := Lib.hid (recErr_zero HER.out)
        go_wp2_with fail
        refine p1.mono ?_
        rintro e w9 ⟨v9, rfl, O9, B9⟩
        have hch := cheap_any l [[x1], [x2, x3]] 3 DA (some ⟨g, 0, none⟩) dc 3 HD.out w9 (own_rowT (O8.out.below B9)) (HPQ.out.below B9) (l.length + 1) 0 w9 (by omega) (by omega) ⟨0, rfl⟩
        rw [e2] at hch
        have HB9 := Lib.hid (B8.out.trans (B9.mono B8.out.size))
        clear p1 B9 e2
        cases hx : (tb [[x1], [x2, x3]] 3 l).getD 0 none with
        | none =>
          have HR := recR_none HER.out hx
          rw [hx] at hch
          rw [HR] at O9 ⊢
          have ec : chV none = -1 := rfl
          rw [ec] at hch
          clear hx HR ec O9
          go_wp2_with fail
          refine hch.mono ?_
          rintro e w10 ⟨rfl, n10, rfl⟩
          clear hch
          go_wp2_with fail
          refine (sane_any _).mono ?_
          rintro e w11 ⟨rfl, B11⟩
          go_wp2_with fail
          go_ret
          have hb := bdn (n := n10) HB9.out
          exact ⟨rfl, hb.trans (B11.mono hb.size)⟩
        | some z =>
          have HR := recR_some HER.out hx
          have hz := (tb_cost HD.out _ _ hx).1
          have hpp := path_pos hx
          rw [hx] at hch
          rw [HR] at O9 ⊢
          have ec : chV (some z) = z.1 := rfl
          rw [ec] at hch
          obtain ⟨PL, hPL⟩ : ∃ P, P = (recPath l [[x1], [x2, x3]] 3).map Int.ofNat := ⟨_, rfl⟩
          simp only [← hPL] at O9 hpp
          obtain ⟨RA, rc, rfl, -⟩ := OwnI.read O9
          obtain ⟨PN, hPN⟩ : ∃ P, P = PL.length := ⟨_, rfl⟩
          rw [← hPN] at hpp ⊢
          have hpi : (0 : Int) < (PN : Int) := by omega
          have hzz : (z.1 == z.1) = true := beq_self_eq_true _
          generalize z.1 = zc at *
          clear hx HR ec O9 hPL hPN hpp
          go_wp2_with fail
          refine hch.mono ?_
          rintro e w10 ⟨rfl, n10, rfl⟩
          clear hch
          go_wp2_with fail
          refine (sane_any _).mono ?_
          rintro e w11 ⟨rfl, B11⟩
          go_wp2_with fail
          go_ret
          have hb := bdn (n := n10) HB9.out
          exact ⟨rfl, hb.trans (B11.mono hb.size)⟩
      · have hu1 : (u == 0) = false := beq_eq_false_iff_ne.2 hu
        clear hu
        have HER := Lib.hid (least_err (d := l) (ps := [[x1], [x2, x3], []]) HG.out hl6 (fun p hp => HIN.out p hp) (by show 3 ≤ 3; decide))
        have HPQ := Lib.hid (show PP w8 (some ⟨g, 0, none⟩) [[x1], [x2, x3], []] from HP8.out)
        have p1 := prec_any l [[x1], [x2, x3], []] 3 DA (some ⟨g, 0, none⟩) dc 3 w8 (own_rowT O8.out) (by unfold maxLen; omega) (by obtain ⟨A', c', e, _, h, _⟩ := O8.out.slice; injection e with _ _ e; omega) HPQ.out (by show 3 ≤ maxLen; decide)
        have e3 : ([[x1], [x2, x3], []] : List (List Int)).length = 3 := rfl
        rw [e3] at p1
        have HD := Lib.hid (recErr_zero HER.out)
        go_wp2_with fail
        refine p1.mono ?_
        rintro e w9 ⟨v9, rfl, O9, B9⟩
        have hch := cheap_any l [[x1], [x2, x3], []] 3 DA (some ⟨g, 0, none⟩) dc 3 HD.out w9 (own_rowT (O8.out.below B9)) (HPQ.out.below B9) (l.length + 1) 0 w9 (by omega) (by omega) ⟨0, rfl⟩
        rw [e3] at hch
        have HB9 := Lib.hid (B8.out.trans (B9.mono B8.out.size))
        clear p1 B9 e3
        cases hx : (tb [[x1], [x2, x3], []] 3 l).getD 0 none with
        | none =>
          have HR := recR_none HER.out hx
          rw [hx] at hch
          rw [HR] at O9 ⊢
          have ec : chV none = -1 := rfl
          rw [ec] at hch
          clear hx HR ec O9
          go_wp2_with fail
          refine hch.mono ?_
          rintro e w10 ⟨rfl, n10, rfl⟩
          clear hch
          go_wp2_with fail
          refine (sane_any _).mono ?_
          rintro e w11 ⟨rfl, B11⟩
          go_wp2_with fail
          go_ret
          have hb := bdn (n := n10) HB9.out
          exact ⟨rfl, hb.trans (B11.mono hb.size)⟩
        | some z =>
          have HR := recR_some HER.out hx
          have hz := (tb_cost HD.out _ _ hx).1
          have hpp := path_pos hx
          rw [hx] at hch
          rw [HR] at O9 ⊢
          have ec : chV (some z) = z.1 := rfl
          rw [ec] at hch
          obtain ⟨PL, hPL⟩ : ∃ P, P = (recPath l [[x1], [x2, x3], []] 3).map Int.ofNat := ⟨_, rfl⟩
          simp only [← hPL] at O9 hpp
          obtain ⟨RA, rc, rfl, -⟩ := OwnI.read O9
          obtain ⟨PN, hPN⟩ : ∃ P, P = PL.length := ⟨_, rfl⟩
          rw [← hPN] at hpp ⊢
          have hpi : (0 : Int) < (PN : Int) := by omega
          have hzz : (z.1 == z.1) = true := beq_self_eq_true _
          generalize z.1 = zc at *
          clear hx HR ec O9 hPL hPN hpp
          go_wp2_with fail
          refine hch.mono ?_
          rintro e w10 ⟨rfl, n10, rfl⟩
          clear hch
          go_wp2_with fail
          refine (sane_any _).mono ?_
          rintro e w11 ⟨rfl, B11⟩
          go_wp2_with fail
          go_ret
          have hb := bdn (n := n10) HB9.out
          exact ⟨rfl, hb.trans (B11.mono hb.size)⟩
end Go.Proofs.Ytgiodpepjajlmaa
