/-
  Stage 6: the walk of ConsistLimit.
-/
import Derived.Test.YtdgekianmkgeiaaCOneW
set_option linter.unusedSimpArgs false
set_option linter.unusedVariables false
namespace Go.Proofs.Ytdgekianmkgeiaa
open Go.RowKit

theorem enc_err {l : List Wag} {x : Int} (h : validL l = x) (hx : x ≠ 0) (A : Option Addr) (c : Nat) (w : World) (R : RRow WR w A l) :
    Calls Try.prog 19 #[.slice A l.length c] w fun e w' => (∃ v, e = .returned (.tuple #[v, .int .i64 x])) ∧ Below w.heap.size w w' := by
  refine (penc_any l A c w R).mono ?_
  rintro e w' ⟨v, rfl, O, B⟩
  rw [encR_bad h hx]
  exact ⟨⟨v, rfl⟩, B⟩
theorem enc_any' {l : List Wag} {x : Int} (h : validL l = x) (A : Option Addr) (c : Nat) (w : World) (R : RRow WR w A l) :
    Calls Try.prog 19 #[.slice A l.length c] w fun e w' => (∃ v, e = .returned (.tuple #[v, .int .i64 x])) ∧ Below w.heap.size w w' := by
  by_cases hx : x = 0
  · subst hx
    refine (enc_at h A c w R).mono ?_
    rintro e w' ⟨v, rfl, _, B⟩
    exact ⟨⟨v, rfl⟩, B⟩
  · exact enc_err h hx A c w R
theorem Made.take {l : List Wag} (h : Made l) (n : Nat) : Made (l.take n) := fun k x hk => by
  rw [List.getElem?_take] at hk
  split at hk
  · exact h k x hk
  · cases hk
/-- A wagon that is there already is refused. -/
theorem dup_err {l : List Wag} {x : Wag} (hv : validL l = 0) (hl : l.length ≤ 95) (hx : x ∈ l) : validL (l ++ [x]) = 8 := by
  obtain ⟨_, h2, h3⟩ := validL_zero.1 hv
  have go : ∀ (seen : List ByteArray) (m : List Wag), (∀ y ∈ m, validW y = 0) → (m.map Wag.num).Nodup → (∀ y ∈ m, y.num ∉ seen) → validW x = 0 → (x.num ∈ seen ∨ x ∈ m) → vl seen (m ++ [x]) = 8 := by
    intro seen m
    induction m generalizing seen with
    | nil =>
      intro _ _ _ hx0 hxs
      rcases hxs with h | h
      · exact vl_dup hx0 h
      · cases h
    | cons y m ih =>
      intro g1 g2 g3 hx0 hxs
      rw [List.map_cons, List.nodup_cons] at g2
      show vl seen (y :: (m ++ [x])) = 8
      rw [vl_ok (g1 y (by simp)) (g3 y (by simp))]
      refine ih _ (fun z hz => g1 z (by simp [hz])) g2.2 (fun z hz g => ?_) hx0 ?_
      · rcases List.mem_append.1 g with g | g
        · exact g3 z (by simp [hz]) g
        · simp at g
          exact g2.1 (List.mem_map.2 ⟨z, hz, g⟩)
      · rcases hxs with h | h
        · exact Or.inl (List.mem_append_left _ h)
        · rcases List.mem_cons.1 h with rfl | h
          · exact Or.inl (by simp)
          · exact Or.inr h
  unfold validL
  rw [if_neg (by rw [List.length_append]; show ¬ 96 < l.length + 1; omega)]
  exact go [] l h2 h3 (by simp) (h2 x hx) (Or.inr hx)
theorem limR {l : List Wag} (h : Made l) : validL l = if 96 < l.length then 3 else 0 := by
  by_cases g : 96 < l.length
  · rw [if_pos g]; unfold validL; rw [if_pos g]
  · rw [if_neg g]; exact h.valid (by omega)
theorem ROwn.take {T : TypeId} {w : World} {base n c : Nat} {A : Option Addr} {l : List Wag} (h : ROwn WR T w base (.slice A n c) l) (hn : n = l.length) {k : Nat} (hk : k ≤ n) : ROwn WR T w base (.slice A k c) (l.take k) := by
  subst hn
  have e : (l.take k).length = k := by rw [List.length_take]; omega
  refine ⟨by rw [flatR_len], ?_⟩
  rw [e]
  rcases h.2 with ⟨g, hn⟩ | ⟨g, cap, cur, e1, e2, e3, e4, e5, e6, e7⟩
  · injection g with g1 _ g2
    subst g1; subst g2
    have : k = 0 := by omega
    subst this
    exact Or.inl ⟨rfl, rfl⟩
  · injection e1 with g1 _ g2
    subst g1; subst g2
    refine Or.inr ⟨g, c, cur, rfl, e2, e3, by omega, e5, e6, ?_⟩
    rw [flatR_take, ← e7, List.take_take, Nat.min_eq_left (Nat.mul_le_mul_right _ hk)]
set_option maxHeartbeats 3200000 in
theorem lim_walk (t : Option Addr) (len cap : Nat) (zs : List Int) (n_ at_ : Int) (w : World) (h : IsRow .i64 w t len cap zs) (a1 : -9223372036854775808 ≤ n_) (a2 : n_ ≤ 9223372036854775807) (b1 : -9223372036854775808 ≤ at_) (b2 : at_ ≤ 9223372036854775807) :
    Calls Try.prog 8 #[.slice t len cap, .int .i64 n_, .int .i64 at_] w fun e w' => e = .returned (.bool true) ∧ Below w.heap.size w w' := by
  have K0 := Lib.hid (mk_new (T := 53) h)
  obtain ⟨y, hy⟩ : ∃ y, n_.tmod 3 = y := ⟨_, rfl⟩
  have hy1 := tmod_in n_ 3 (by decide)
  rw [hy] at hy1
  obtain ⟨hy1, hy2⟩ := hy1
  obtain ⟨N, hN⟩ : ∃ N : Nat, (N : Int) = 95 + (y + 3) % 3 := ⟨(95 + (y + 3) % 3).toNat, by omega⟩
  have hN1 : 95 ≤ N := by omega
  have hN2 : N ≤ 97 := by omega
  obtain ⟨q, hq⟩ : ∃ q, (y + 3) % 3 = q := ⟨_, rfl⟩
  have hq2 : y % 3 = q := by omega
  have hN3 : 95 + q = (N : Int) := by omega
  clear h hN
  go_enter Try.func8, Try.ntmps8
  go_wp2_with fail
  refine (new_any t len cap w).mono ?_
  rintro e w1 ⟨rfl, e1⟩
  have HB1 := Lib.hid (show Below w.heap.size w w1 by rw [e1]; exact (Below.refl _ _).alloc (Nat.le_refl _) _)
  have K1 := Lib.hid (show IsMk w1 w.heap.size 0 by rw [e1]; exact K0.out)
  have hm := K1.out.lt
  have HMM := Lib.hid hm
  clear e1 K0 hm
  go_wp2_with fail
  rw [hq]
  clear hq hq2 hN3
  go_loopw [8, 9] (fun ov iv wr => ∃ (l : List Wag) (M : Nat), iv = .int .i64 (l.length : Int) ∧ l.length ≤ N ∧ M ≤ 17 * l.length ∧ Hid (ROwn WR 30 wr w1.heap.size ov l) ∧ Hid (Made l) ∧ Hid (IsMk wr w.heap.size M) ∧ Hid (Below w.heap.size w wr) ∧ Hid (w1.heap.size ≤ wr.heap.size)) (fun _ iv _ => N - (intOf iv).toNat)
  case atStart => exact ⟨[], 0, rfl, by simp, by simp, Lib.hid ROwn.nil, Lib.hid Made.nil, K1, HB1, Lib.hid (Nat.le_refl _)⟩
  case round =>
    clear K1
    obtain ⟨l, M, rfl, hk, hM, O, G, K, B, S⟩ := hrel
    obtain ⟨k, hkl⟩ : ∃ k, k = l.length := ⟨_, rfl⟩
    have HKL := Lib.hid hkl
    rw [← hkl] at hk hM ⊢
    clear hkl
    by_cases hlt : k < N
    · go_wp2_with fail
      refine (mwagon_any w.heap.size M (k : Int) _ K.out (by omega) (by omega) (by omega)).mono ?_
      rintro e w3 ⟨x, rfl, hx, k5, k6⟩
      have B3 := Lib.hid (k6.below B.out (Nat.le_refl _) B.out.size)
      have O3 := Lib.hid (O.out.moves k6 HMM.out)
      have K3 := Lib.hid k5
      have HX := Lib.hid hx
      have S3 := Lib.hid (Nat.le_trans S.out k6.size)
      have HK97 := Lib.hid (show k ≤ 97 by omega)
      clear k5 k6 K O hx S B
      go_wp2_with (first | (at_builtin; refine wpList_appW _ rfl (.tmp 24) (.tmp 28) rfl w1.heap.size _ l rfl (O3.out.alloc _) [x] w3 rfl _ rfl 1 1 rfl (by decide) rfl (by have := HK97.out; have := HKL.out; omega) (le_alloc S3.out) ?_; rintro v4 w4 ⟨O4, G4, g4, c4, rfl, _⟩))
      have HO4 := Lib.hid O4
      have B4 := Lib.hid ((B3.out.alloc B3.out.size (.cells (WR.flat [x]).toArray 30)).grown G4 (by rw [World.size_alloc]; have := B3.out.size; omega) (fun j hj => by have := (O3.out.block hj).1; have := HMM.out; omega))
      have K4 := Lib.hid ((K3.out.alloc (.cells (WR.flat [x]).toArray 30)).grown G4 (fun j hj => by have := (O3.out.block hj).1; have := HMM.out; omega))
      have S4 := Lib.hid (show w1.heap.size ≤ w4.heap.size from by have := G4.size; rw [World.size_alloc] at this; have := S3.out; omega)
      clear O4 G4
      go_roundw
      case rel =>
        refine ⟨l ++ [x], M + 17, by rw [List.length_append, ← HKL.out]; go_num, by rw [List.length_append, ← HKL.out]; simp; omega, by rw [List.length_append, ← HKL.out]; simp; omega, HO4, Lib.hid (G.out.snoc (by rw [← HKL.out]; exact HX.out)), K4, B4, S4⟩
      case measure => simp [intOf]; omega
    · obtain rfl : k = N := by omega
      obtain ⟨A, c, hv, R, hc1, hc2, hg, _⟩ := O.out.full
      have HO := Lib.hid O.out
      rw [hv] at HO
      subst hv
      rw [← HKL.out] at hc1 HO ⊢
      have HR := Lib.hid R
      have HLR := Lib.hid (limR G.out)
      rw [← HKL.out] at HLR
      obtain ⟨er, her⟩ : ∃ er, er = validL l := ⟨_, rfl⟩
      have HER := Lib.hid her.symm
      rw [← her] at HLR
      have henc := enc_any' HER.out A c wr HR.out
      rw [← HKL.out] at henc
      clear R her hlt hk O
      go_wp2_with fail
      refine henc.mono ?_
      rintro e w5 ⟨⟨v5, rfl⟩, B5⟩
      have HB5 := Lib.hid (B.out.trans (B5.mono B.out.size))
      have HO5 := Lib.hid (HO.out.below B5)
      have HS5 := Lib.hid (Nat.le_trans S.out B5.size)
      clear henc B5 HO
      obtain ⟨y2, hy4⟩ : ∃ y2, at_.tmod 95 = y2 := ⟨_, rfl⟩
      obtain ⟨hy5, hy6⟩ := tmod_in at_ 95 (by decide)
      rw [hy4] at hy5 hy6
      obtain ⟨j, hj⟩ : ∃ j : Nat, (y2 + 95) % 95 = j := ⟨((y2 + 95) % 95).toNat, by omega⟩
      have hj2 : y2 % 95 = (j : Int) := by omega
      have hj3 : (j : Int) < 95 := by omega
      have hj4 : (j : Int) < (k : Int) := by omega
      obtain ⟨x, hx⟩ : ∃ x, (l.take 95)[j]? = some x := ⟨_, List.getElem?_eq_getElem (by rw [List.length_take, ← HKL.out]; omega)⟩
      have HXM := Lib.hid (List.mem_of_getElem? hx)
      have HO6 := Lib.hid (ROwn.take HO5.out HKL.out hN1)
      have HM95 := Lib.hid (G.out.take 95)
      obtain ⟨l2, hl2⟩ : ∃ l2, l2 = l.take 95 := ⟨_, rfl⟩
      have hl95 : l2.length = 95 := by rw [hl2, List.length_take, ← HKL.out]; omega
      have HL95 := Lib.hid hl95
      rw [← hl2] at hx HXM HO6 HM95
      have HDU := Lib.hid (dup_err (HM95.out.valid (by omega)) (by omega) HXM.out)
      obtain ⟨g, hAg, _, _⟩ := hg (by rw [← HKL.out]; omega)
      subst hAg
      have hc95 : (95 : Int) ≤ (c : Int) := by omega
      have hcc : (c : Int) ≤ 9223372036854775807 := by unfold maxLen at hc2; omega
      obtain ⟨⟨c0, c1', c2', c3, c4, c5, c6, c7⟩, _⟩ := HO6.out.atW HL95.out.symm hx
      clear hl2 hl95 hx hg HR HO5 HM95 hc2
      by_cases h97 : 96 < k
      · have he : er = 3 := by rw [HLR.out, if_pos h97]
        subst he
        have q1 : (96 : Int) < (k : Int) := by omega
        have q2 : ¬ (k : Int) ≤ 96 := by omega
        clear h97
        go_wp2_with (first | (at_builtin; refine wpList_appW _ rfl (.tmp 50) (.tmp 64) rfl w1.heap.size _ l2 rfl (by have := HO6.out.alloc (.cells (WR.flat [x]).toArray 30); exact this) [x] w5 rfl _ rfl 1 1 rfl (by decide) rfl (by have := HL95.out; omega) (le_alloc HS5.out) ?_; rintro v6 w6 ⟨O6, G6, g6, cc, rfl, _⟩))
        have HO7 := Lib.hid O6
        have HB7 := Lib.hid ((HB5.out.alloc HB5.out.size (.cells (WR.flat [x]).toArray 30)).grown G6 (by rw [World.size_alloc]; have := HB5.out.size; omega) (fun j hj => by have := (HO6.out.block hj).1; have := HMM.out; omega))
        have HR7 := Lib.hid (show RRow WR w6 (some ⟨g6, 0, none⟩) (l2 ++ [x]) from by
          obtain ⟨A', c', e, R, _⟩ := HO7.out.full
          injection e with e
          rw [e]; exact R)
        clear O6 G6 c0 c1' c2' c3 c4 c5 c6 c7
        have he2 := enc_err HDU.out (by decide) (some ⟨g6, 0, none⟩) cc w6 HR7.out
        have e1 : (l2 ++ [x]).length = l2.length + 1 := by simp
        rw [e1] at he2
        go_wp2_with fail
        refine he2.mono ?_
        rintro e w7 ⟨⟨v7, rfl⟩, B7⟩
        have HB8 := Lib.hid (HB7.out.trans (B7.mono HB7.out.size))
        clear he2 B7
        go_wp2_with fail
        refine (sane_any _).mono ?_
        rintro e w9 ⟨rfl, B9⟩
        go_wp2_with fail
        go_ret
        exact ⟨rfl, HB8.out.trans (B9.mono HB8.out.size)⟩
      · have he : er = 0 := by rw [HLR.out, if_neg h97]
        subst he
        have q1 : ¬ (96 : Int) < (k : Int) := by omega
        have q2 : (k : Int) ≤ 96 := by omega
        clear h97
        go_wp2_with (first | (at_builtin; refine wpList_appW _ rfl (.tmp 50) (.tmp 64) rfl w1.heap.size _ l2 rfl (by have := HO6.out.alloc (.cells (WR.flat [x]).toArray 30); exact this) [x] w5 rfl _ rfl 1 1 rfl (by decide) rfl (by have := HL95.out; omega) (le_alloc HS5.out) ?_; rintro v6 w6 ⟨O6, G6, g6, cc, rfl, _⟩))
        have HO7 := Lib.hid O6
        have HB7 := Lib.hid ((HB5.out.alloc HB5.out.size (.cells (WR.flat [x]).toArray 30)).grown G6 (by rw [World.size_alloc]; have := HB5.out.size; omega) (fun j hj => by have := (HO6.out.block hj).1; have := HMM.out; omega))
        have HR7 := Lib.hid (show RRow WR w6 (some ⟨g6, 0, none⟩) (l2 ++ [x]) from by
          obtain ⟨A', c', e, R, _⟩ := HO7.out.full
          injection e with e
          rw [e]; exact R)
        clear O6 G6 c0 c1' c2' c3 c4 c5 c6 c7
        have he2 := enc_err HDU.out (by decide) (some ⟨g6, 0, none⟩) cc w6 HR7.out
        have e1 : (l2 ++ [x]).length = l2.length + 1 := by simp
        rw [e1] at he2
        go_wp2_with fail
        refine he2.mono ?_
        rintro e w7 ⟨⟨v7, rfl⟩, B7⟩
        have HB8 := Lib.hid (HB7.out.trans (B7.mono HB7.out.size))
        clear he2 B7
        go_wp2_with fail
        refine (sane_any _).mono ?_
        rintro e w9 ⟨rfl, B9⟩
        go_wp2_with fail
        go_ret
        exact ⟨rfl, HB8.out.trans (B9.mono HB8.out.size)⟩
end Go.Proofs.Ytdgekianmkgeiaa
