/-
  Stage 13: the law's chain.
-/
import Derived.Test.YtcplanafcnnodaaYLawA
import Derived.Test.YtcplanafcnnodaaJRef2
set_option linter.unusedSimpArgs false
set_option linter.unusedVariables false
namespace Go.Proofs.Ytcplanafcnnodaa
open Go.RowKit Go.Lib

/-- What holds while a chain is made. -/
structure ChS (w wr : World) (b m : Nat) (A : Option Addr) (c : Nat) (l : List It) (wt : Int) (u : Value) (d : List Nat) (N : Nat) : Prop where
  box : JBox wr b A l.length c wt
  its : IOwn 26 wr (m + 1) (.slice A l.length c) l
  lo : ∀ g, (Value.slice A l.length c).ownBlock = some g → g < b
  out : Own .i64 3 wr (b + 1) u (toZ d)
  ok : ∀ x ∈ d, x < l.length
  mkr : IsMk wr m N
  mv : Moves m w wr
  lt : m < b
  eq : b = w.heap.size
theorem ChS.step {w wr w' : World} {b m c N M : Nat} {A : Option Addr} {l : List It} {wt : Int} {u : Value} {d : List Nat} (h : ChS w wr b m A c l wt u d N) (k : Moves m wr w') (g : IsMk w' m M) : ChS w w' b m A c l wt u d M :=
  ⟨h.box.moves k (by have := h.lt; omega), h.its.moves k (Nat.lt_succ_self _), h.lo, h.out.moves k (by have := h.lt; omega), h.ok, g, h.mv.trans k, h.lt, h.eq⟩
theorem ChS.irow {w wr : World} {b m c N : Nat} {A : Option Addr} {l : List It} {wt : Int} {u : Value} {d : List Nat} (h : ChS w wr b m A c l wt u d N) : IRow wr A l := h.its.irow
theorem ChS.below {w wr w' : World} {b m c N : Nat} {A : Option Addr} {l : List It} {wt : Int} {u : Value} {d : List Nat} (h : ChS w wr b m A c l wt u d N) (k : Below wr.heap.size wr w') : ChS w w' b m A c l wt u d N :=
  h.step (Moves.of_below k) (h.mkr.stays' k)
theorem ChS.app {w wr w' : World} {b m c N x : Nat} {A : Option Addr} {l : List It} {wt : Int} {u v : Value} {d : List Nat} (h : ChS w wr b m A c l wt u d N) (a : AppI (b + 1) u (toZ d) (x : Int) wr v w') (hx : x < l.length) : ChS w w' b m A c l wt v (d ++ [x]) N := by
  obtain ⟨O, hg, g, cc, rfl, hlt, hat⟩ := a
  have hne : ∀ k, u.ownBlock = some k → b + 1 ≤ k := fun k hk => (own_block h.out hk).1
  have hblk : w'.heap[b]? = wr.heap[b]? := hg.block b h.box.lt (fun e => by have := hne b e.symm; omega)
  refine ⟨⟨(World.cell?_of_block (w := wr) hblk).trans h.box.c0, (World.cell?_of_block (w := wr) hblk).trans h.box.c1, Nat.lt_of_lt_of_le h.box.lt hg.size⟩, h.its.kept hg ?_, h.lo, by rw [toZ_app]; exact O, fun z hz => ?_, h.mkr.grown hg (fun k hk => by have := hne k hk; have := h.lt; omega), h.mv.grown hg (fun k hk => by have := hne k hk; have := h.eq; omega), h.lt, h.eq⟩
  · cases hv : (Value.slice A l.length c).ownBlock with
    | none => exact Or.inl rfl
    | some k => exact Or.inr (fun e => by have := h.lo k hv; have := hne k e.symm; omega)
  · rcases List.mem_append.1 hz with hz | hz
    · exact h.ok z hz
    · rw [List.mem_singleton] at hz; subst hz; exact hx
def ChPost (m M : Nat) (l : List It) (w : World) (e : Ending) (w' : World) : Prop :=
  ∃ u d, e = .returned u ∧ Own .i64 3 w' w.heap.size u (toZ d) ∧ (∀ x ∈ d, x < l.length) ∧ d.length ≤ l.length ∧ IsMk w' m M ∧ Moves m w w'
set_option maxRecDepth 100000 in
set_option maxHeartbeats 6400000 in
theorem chain13_any (l : List It) (A : Option Addr) (c L m N : Nat) (wt : Int) (hL : L = l.length) (hL2 : L ≤ 1000) (w : World) (hm : IsMk w m N) (hN : N ≤ 1000000) (hi : IOwn 26 w (m + 1) (.slice A l.length c) l) :
    Calls Try.prog 18 #[.pointer (some ⟨m, 0, none⟩), jv A L c wt] w (ChPost m (N + 3 * L) l w) := by
  have hwl : m < w.heap.size := hm.lt
  have BX := (Below.refl w.heap.size w).alloc (Nat.le_refl _) (.cells #[.slice A L c, .int .i64 wt] 24)
  have S0 := Lib.hid (show ChS w (w.alloc (.cells #[.slice A L c, .int .i64 wt] 24)) w.heap.size m A c l wt (.slice none 0 0) [] N from by
    rw [hL]
    rw [hL] at BX
    exact ⟨JBox.new _ rfl, hi.below BX, fun g hg => (hi.block hg).2, Own.nil, (fun x hx => (by cases hx)), hm.stays' BX, Moves.of_below BX, hwl, rfl⟩)
  have HL := Lib.hid hL
  have HKI := Lib.hid (fun (x y : Nat) (hx : x < L) (hy : y < L) (W : World) (k : IRow W A l) => kind_any l A c wt x y (by rw [← hL]; exact hx) (by rw [← hL]; exact hy) W k)
  rw [← hL] at HKI
  obtain ⟨b, hb⟩ : ∃ b, b = w.heap.size := ⟨_, rfl⟩
  clear hi hm BX hL hwl
  go_enter Try.func18, Try.ntmps18
  go_upto_region 1 with fail
  rw [← hb] at S0 ⊢
  generalize w.alloc (.cells #[.slice A L c, .int .i64 wt] 24) = w1 at *
  have HBQ := Lib.hid hb
  clear hb
  have J := S0.out.box
  rw [← HL.out] at J
  obtain ⟨j0, j1, jl⟩ := J
  go_wp2_with fail
  clear j0 j1 jl
  go_loopw [5, 11] (fun ov iv wr => ∃ (k : Nat) (u : Value) (d : List Nat) (M : Nat), k ≤ L ∧ iv = .int .i64 (k : Int) ∧ ov = u ∧ M ≤ N + 3 * k ∧ d.length ≤ k ∧ Hid (ChS w wr b m A c l wt u d M)) (fun _ iv _ => L - (intOf iv).toNat)
  case atStart => exact ⟨0, _, [], N, by omega, rfl, rfl, by omega, by simp, S0⟩
  case round =>
    clear S0
    obtain ⟨k, u, d, M, hk, rfl, rfl, hM, hd, S⟩ := hrel
    by_cases hlt : k < L
    · have hki : (k : Int) < (L : Int) := by omega
      go_wp2_with fail
      refine (next_any m M 2 _ S.out.mkr (by omega) (by omega) (by omega)).mono ?_
      rintro e w2 ⟨a0, rfl, a1, a2, k1, v1⟩
      have S2 := Lib.hid (S.out.step v1 k1)
      clear k1 v1 S
      by_cases ha : a0 = 0
      · subst ha
        go_wp2_with fail
        go_roundw
        case rel => exact ⟨k + 1, _, d, M + 1, by omega, by go_num, rfl, by omega, by omega, S2⟩
        case measure => simp [intOf]; omega
      · have hab : (a0 == 0) = false := beq_eq_false_iff_ne.2 ha
        have J := S2.out.box
        rw [← HL.out] at J
        obtain ⟨j0, j1, jl⟩ := J
        clear ha a1 a2
        go_wp2_with fail
        refine (next_any m (M + 1) (L : Int) _ S2.out.mkr (by omega) (by omega) (by omega)).mono ?_
        rintro e w3 ⟨y0, rfl, y1, y2, k1, v1⟩
        have S3 := Lib.hid (S2.out.step v1 k1)
        obtain ⟨y, rfl⟩ := Int.eq_ofNat_of_zero_le y1
        have hyL : y < L := by omega
        clear k1 v1 S2 j0 j1 jl y1 y2 hab
        obtain ⟨uA, uc, hu, UR, -, hum, -⟩ := S3.out.out.slice
        rw [toZ_len] at hu hum
        subst hu
        have HUR := Lib.hid UR
        obtain ⟨n, hn⟩ : ∃ n, n = d.length := ⟨_, rfl⟩
        have HNL := Lib.hid hn
        rw [← hn] at S3 hd hum ⊢
        have hum' : n ≤ 9223372036854775807 := hum
        clear UR hum hn
        go_upto_region 7 with fail
        go_cut [41] from 22 to 41 (fun bv wx => ∃ bb : Bool, bv = .bool bb ∧ Hid (ChS w wx b m A c l wt (.slice uA n uc) d (M + 3)))
        case first =>
          cases n with
          | zero =>
            have S4 := Lib.hid (fun q => (S3.out.below (w' := w3.drewN q) ⟨rfl, rfl, rfl, Nat.le_refl _, fun _ _ => rfl⟩).step (Moves.refl _ _) ((S3.out.mkr.drewN (n := q)).more (show M + 1 + 1 ≤ M + 3 by omega)))
            go_quiet (fail)
            go_wp2_with fail
            go_meet
            case rel => exact ⟨true, rfl, S4.out _⟩
          | succ q =>
            obtain ⟨ad, rfl, _, cq⟩ := HUR.out q (by rw [toZ_len, ← HNL.out]; omega)
            rw [toZ_at _ (by rw [← HNL.out]; omega)] at cq
            have hxm := S3.out.ok _ (getD_memN (os := d) (i := q) (by rw [← HNL.out]; omega))
            obtain ⟨x, hx⟩ : ∃ x, x = d.getD q 0 := ⟨_, rfl⟩
            rw [← hx] at cq hxm
            rw [← HL.out] at hxm
            have J := S3.out.box
            rw [← HL.out] at J
            obtain ⟨j0, j1, jl⟩ := J
            have ltq := lt_of_cell cq
            have hbm := S3.out.lt
            have hge := S3.out.out
            have hadb : ad.block ≠ m := by
              obtain ⟨A', c', ev, _, _, _, hge⟩ := S3.out.out.slice
              obtain ⟨g, hg, h1, h2⟩ := hge (by rw [toZ_len, ← HNL.out]; omega)
              have e1 : (some ad : Option Addr) = A' := by injection ev
              rw [hg] at e1
              have e2 : ad = ⟨g, 0, none⟩ := by injection e1
              rw [e2]; show g ≠ m; omega
            have HPS := Lib.hid (fun (X : World) (hX : Moves m w3 X) => (show X.cell? ⟨b, 0, none⟩ = some (.slice A L c) ∧ X.cell? ⟨b, 1, none⟩ = some (.int .i64 wt) ∧ X.cell? (ad.add q) = some (.int .i64 (x : Int)) from
              ⟨(hX.cell (p := ⟨b, 0, none⟩) jl (by show b ≠ m; omega)).trans j0, (hX.cell (p := ⟨b, 1, none⟩) jl (by show b ≠ m; omega)).trans j1, (hX.cell ltq (by rw [add_block]; exact hadb)).trans cq⟩))
            have hqn : (q : Int) < (q : Int) + 1 := by omega
            have hqn2 : ¬ ((q : Int) + 1 ≤ (q : Int)) := by omega
            have hq0 : (((q : Int) + 1) == 0) = false := beq_eq_false_iff_ne.2 (by omega)
            have hq1 : (q : Int) + 1 - 1 = (q : Int) := by omega
            have hqw : IntKind.i64.wrap ((q : Int) + 1 - 1) = (q : Int) := by rw [IntWalk.i64_in _ (by omega)]; omega
            have hqw2 : IntKind.i64.wrap (q : Int) = (q : Int) := IntWalk.i64_in _ (by omega)
            have hrc := rel_cases l x y
            have HK1 := Lib.hid (fun W k => HKI.out x y hxm hyL W k)
            obtain ⟨r, hr⟩ : ∃ r, r = rel l x y := ⟨_, rfl⟩
            rw [← hr] at HK1 hrc
            clear j0 j1 jl ltq hadb hge hx cq hr
            obtain ⟨q0, e0⟩ : ∃ x, x = w3.drew := ⟨_, rfl⟩
            have V0 := Lib.hid (show Moves m w3 q0 from by rw [e0]; exact (Moves.refl _ _).drewN (n := 1))
            have S4 := Lib.hid (show ChS w q0 b m A c l wt (.slice (some ad) (q + 1) uc) d (M + 1 + 1) from by rw [e0]; exact S3.out.below ⟨rfl, rfl, rfl, Nat.le_refl _, fun _ _ => rfl⟩)
            have F0 := HPS.out q0 V0.out
            have HE0 := Lib.hid e0
            clear e0 S3
            refine AnyT.begin_at tlN (fun X => X.cell? ⟨b, 0, none⟩ = some (.slice A L c) ∧ X.cell? ⟨b, 1, none⟩ = some (.int .i64 wt) ∧ X.cell? (ad.add q) = some (.int .i64 (x : Int))) (by kernel_rfl) HE0.out F0 ?_
            clear F0
            intro F0
-- TAKES H7
            refine AnyT.takeD (i := 0) (d := some 22) (v := .slice (some ad) (q + 1) uc) rfl rfl (by kernel_rfl) (by kernel_rfl) (by kernel_rfl) (by kernel_rfl) (fun _ _ _ h => h) (Or.inl ⟨by rfl, fun wz _ => by go_simp⟩) F0 ?_
            simp only [Act.put, List.setIfInBounds_toArray, List.set_cons_zero, List.set_cons_succ]
            refine AnyT.takeD (i := 1) (d := some 23) (v := .int .i64 ((q : Int) + 1)) rfl rfl (by kernel_rfl) (by kernel_rfl) (by kernel_rfl) (by kernel_rfl) (fun _ _ _ h => h) (Or.inl ⟨by rfl, fun wz _ => by go_simp⟩) F0 ?_
            simp only [Act.put, List.setIfInBounds_toArray, List.set_cons_zero, List.set_cons_succ]
            refine AnyT.takeD (i := 2) (d := some 24) (v := .bool false) rfl rfl (by kernel_rfl) (by kernel_rfl) (by kernel_rfl) (by kernel_rfl) (fun _ _ _ h => h) (Or.inl ⟨by rfl, fun wz _ => by go_simp⟩) F0 ?_
            simp only [Act.put, List.setIfInBounds_toArray, List.set_cons_zero, List.set_cons_succ]
            refine AnyT.takeD (i := 3) (d := some 25) (v := .bool false) rfl rfl (by kernel_rfl) (by kernel_rfl) (by kernel_rfl) (by kernel_rfl) (fun _ _ _ h => h) (Or.inl ⟨by rfl, fun wz _ => by go_simp⟩) F0 ?_
            simp only [Act.put, List.setIfInBounds_toArray, List.set_cons_zero, List.set_cons_succ]
            refine AnyT.takeD (i := 4) (d := some 26) (v := jv A L c wt) rfl rfl (by kernel_rfl) (by kernel_rfl) (by kernel_rfl) (by kernel_rfl) (fun _ _ _ h => h) (Or.inl ⟨by rfl, fun wz hz => by obtain ⟨z0, z1, z2⟩ := hz; go_simp⟩) F0 ?_
            simp only [Act.put, List.setIfInBounds_toArray, List.set_cons_zero, List.set_cons_succ]
            refine AnyT.takeD (i := 5) (d := some 27) (v := .slice (some ad) (q + 1) uc) rfl rfl (by kernel_rfl) (by kernel_rfl) (by kernel_rfl) (by kernel_rfl) (fun _ _ _ h => h) (Or.inl ⟨by rfl, fun wz _ => by go_simp⟩) F0 ?_
            simp only [Act.put, List.setIfInBounds_toArray, List.set_cons_zero, List.set_cons_succ]
            refine AnyT.takeD (i := 6) (d := some 28) (v := .slice (some ad) (q + 1) uc) rfl rfl (by kernel_rfl) (by kernel_rfl) (by kernel_rfl) (by kernel_rfl) (fun _ _ _ h => h) (Or.inl ⟨by rfl, fun wz _ => by go_simp⟩) F0 ?_
            simp only [Act.put, List.setIfInBounds_toArray, List.set_cons_zero, List.set_cons_succ]
            refine AnyT.takeD (i := 7) (d := some 29) (v := .int .i64 ((q : Int) + 1)) rfl rfl (by kernel_rfl) (by kernel_rfl) (by kernel_rfl) (by kernel_rfl) (fun _ _ _ h => h) (Or.inl ⟨by rfl, fun wz _ => by go_simp⟩) F0 ?_
            simp only [Act.put, List.setIfInBounds_toArray, List.set_cons_zero, List.set_cons_succ]
            refine AnyT.takeD (i := 8) (d := some 30) (v := .int .i64 (q : Int)) rfl rfl (by kernel_rfl) (by kernel_rfl) (by kernel_rfl) (by kernel_rfl) (fun _ _ _ h => h) (Or.inl ⟨by rfl, fun wz _ => by go_simp⟩) F0 ?_
            simp only [Act.put, List.setIfInBounds_toArray, List.set_cons_zero, List.set_cons_succ]
            refine AnyT.takeD (i := 9) (d := some 31) (v := .pointer (some (ad.add q))) rfl rfl (by kernel_rfl) (by kernel_rfl) (by kernel_rfl) (by kernel_rfl) (fun _ _ _ h => h) (Or.inl ⟨by rfl, fun wz _ => by go_simp⟩) F0 ?_
            simp only [Act.put, List.setIfInBounds_toArray, List.set_cons_zero, List.set_cons_succ]
            refine AnyT.takeD (i := 10) (d := some 32) (v := .int .i64 (x : Int)) rfl rfl (by kernel_rfl) (by kernel_rfl) (by kernel_rfl) (by kernel_rfl) (fun _ _ _ h => h) (Or.inl ⟨by rfl, fun wz hz => by obtain ⟨z0, z1, z2⟩ := hz; go_simp⟩) F0 ?_
            simp only [Act.put, List.setIfInBounds_toArray, List.set_cons_zero, List.set_cons_succ]
            refine AnyT.takeD (i := 11) (d := some 33) (v := .int .i64 (y : Int)) rfl rfl (by kernel_rfl) (by kernel_rfl) (by kernel_rfl) (by kernel_rfl) (fun _ _ _ h => h) (Or.inl ⟨by rfl, fun wz _ => by go_simp⟩) F0 ?_
            simp only [Act.put, List.setIfInBounds_toArray, List.set_cons_zero, List.set_cons_succ]
            -- TAKEN H7
            refine AnyT.branch (rs := [12]) (by kernel_rfl) (by simp) ?_
            refine all_cons (?_) all_nil
            refine AnyT.enterG (i := 12) (d := some 34) (f := 27) (args := #[jv A L c wt, .int .i64 (x : Int), .int .i64 (y : Int)]) rfl (by rfl) rfl (by go_simp) (HK1.out q0 S4.out.irow) ?_
            rintro e q1 ⟨rfl, hB1⟩
            have V1 := Lib.hid (V0.out.trans (Moves.of_below hB1))
            have S5 := Lib.hid (S4.out.below hB1)
            have F1 := HPS.out q1 V1.out
            refine ⟨_, rfl, fun _ => F1, ?_⟩
            clear hB1 F0 S4 HK1
            simp only [Act.put, List.setIfInBounds_toArray, List.set_cons_zero, List.set_cons_succ]
            by_cases hr0 : r = 0
            · subst hr0
-- TAKES H8
              refine AnyT.takeD (i := 13) (d := some 35) (v := .bool false) rfl rfl (by kernel_rfl) (by kernel_rfl) (by kernel_rfl) (by kernel_rfl) (fun _ _ _ h => h) (Or.inl ⟨by rfl, fun wz _ => by go_simp⟩) F1 ?_
              simp only [Act.put, List.setIfInBounds_toArray, List.set_cons_zero, List.set_cons_succ]
              refine AnyT.takeD (i := 14) (d := some 36) (v := .bool false) rfl rfl (by kernel_rfl) (by kernel_rfl) (by kernel_rfl) (by kernel_rfl) (fun _ _ _ h => h) (Or.inl ⟨by rfl, fun wz _ => by go_simp⟩) F1 ?_
              simp only [Act.put, List.setIfInBounds_toArray, List.set_cons_zero, List.set_cons_succ]
              refine AnyT.takeD (i := 15) (d := some 37) (v := .bool false) rfl rfl (by kernel_rfl) (by kernel_rfl) (by kernel_rfl) (by kernel_rfl) (fun _ _ _ h => h) (Or.inl ⟨by rfl, fun wz _ => by go_simp⟩) F1 ?_
              simp only [Act.put, List.setIfInBounds_toArray, List.set_cons_zero, List.set_cons_succ]
              refine AnyT.takeD (i := 16) (d := some 38) (v := .pointer (some ⟨m, 0, none⟩)) rfl rfl (by kernel_rfl) (by kernel_rfl) (by kernel_rfl) (by kernel_rfl) (fun _ _ _ h => h) (Or.inl ⟨by rfl, fun wz _ => by go_simp⟩) F1 ?_
              simp only [Act.put, List.setIfInBounds_toArray, List.set_cons_zero, List.set_cons_succ]
              -- TAKEN H8
              refine AnyT.branch (rs := [17]) (by kernel_rfl) (by simp) ?_
              refine all_cons (?_) all_nil
              refine AnyT.enterG (i := 17) (d := some 39) (f := 35) (args := #[.pointer (some ⟨m, 0, none⟩), .int .i64 20]) rfl (by rfl) rfl (by go_simp) (next_any m (M + 1 + 1) 20 q1 S5.out.mkr (by omega) (by omega) (by omega)) ?_
              rintro e q2 ⟨z, rfl, z1, z2, k2, v2⟩
              have V2 := Lib.hid (V1.out.trans v2)
              have S6 := Lib.hid (S5.out.step v2 k2)
              have F2 := HPS.out q2 V2.out
              refine ⟨_, rfl, fun _ => F2, ?_⟩
              clear k2 v2 F1 S5
              simp only [Act.put, List.setIfInBounds_toArray, List.set_cons_zero, List.set_cons_succ]
-- TAKES H9
              refine AnyT.takeD (i := 18) (d := some 40) (v := .bool (z == 0)) rfl rfl (by kernel_rfl) (by kernel_rfl) (by kernel_rfl) (by kernel_rfl) (fun _ _ _ h => h) (Or.inl ⟨by rfl, fun wz _ => by go_simp⟩) F2 ?_
              simp only [Act.put, List.setIfInBounds_toArray, List.set_cons_zero, List.set_cons_succ]
              refine AnyT.takeD (i := 19) (d := some 41) (v := .bool (z == 0)) rfl rfl (by kernel_rfl) (by kernel_rfl) (by kernel_rfl) (by kernel_rfl) (fun _ _ _ h => h) (Or.inl ⟨by rfl, fun wz _ => by go_simp⟩) F2 ?_
              simp only [Act.put, List.setIfInBounds_toArray, List.set_cons_zero, List.set_cons_succ]
              -- TAKEN H9
              refine AnyT.done_ (by kernel_rfl) ?_ _
              clear F2 HPS HE0 V0 V1 V2
              go_wp2_with fail
              go_meet
              case rel => exact ⟨(z == 0), rfl, S6⟩
            · have hrp : 0 < r := by omega
-- TAKES HA
              refine AnyT.takeD (i := 13) (d := some 35) (v := .bool true) rfl rfl (by kernel_rfl) (by kernel_rfl) (by kernel_rfl) (by kernel_rfl) (fun _ _ _ h => h) (Or.inl ⟨by rfl, fun wz _ => by go_simp⟩) F1 ?_
              simp only [Act.put, List.setIfInBounds_toArray, List.set_cons_zero, List.set_cons_succ]
              refine AnyT.takeD (i := 14) (d := some 36) (v := .bool true) rfl rfl (by kernel_rfl) (by kernel_rfl) (by kernel_rfl) (by kernel_rfl) (fun _ _ _ h => h) (Or.inl ⟨by rfl, fun wz _ => by go_simp⟩) F1 ?_
              simp only [Act.put, List.setIfInBounds_toArray, List.set_cons_zero, List.set_cons_succ]
              refine AnyT.takeD (i := 15) (d := some 37) (v := .bool true) rfl rfl (by kernel_rfl) (by kernel_rfl) (by kernel_rfl) (by kernel_rfl) (fun _ _ _ h => h) (Or.inl ⟨by rfl, fun wz _ => by go_simp⟩) F1 ?_
              simp only [Act.put, List.setIfInBounds_toArray, List.set_cons_zero, List.set_cons_succ]
              refine AnyT.takeD (i := 16) (d := some 38) (v := undef) rfl rfl (by kernel_rfl) (by kernel_rfl) (by kernel_rfl) (by kernel_rfl) (fun _ _ _ h => h) (Or.inr ⟨by rfl, rfl⟩) F1 ?_
              simp only [Act.put, List.setIfInBounds_toArray, List.set_cons_zero, List.set_cons_succ]
              refine AnyT.takeD (i := 17) (d := some 39) (v := undef) rfl rfl (by kernel_rfl) (by kernel_rfl) (by kernel_rfl) (by kernel_rfl) (fun _ _ _ h => h) (Or.inr ⟨by rfl, rfl⟩) F1 ?_
              simp only [Act.put, List.setIfInBounds_toArray, List.set_cons_zero, List.set_cons_succ]
              refine AnyT.takeD (i := 18) (d := some 40) (v := undef) rfl rfl (by kernel_rfl) (by kernel_rfl) (by kernel_rfl) (by kernel_rfl) (fun _ _ _ h => h) (Or.inr ⟨by rfl, rfl⟩) F1 ?_
              simp only [Act.put, List.setIfInBounds_toArray, List.set_cons_zero, List.set_cons_succ]
              refine AnyT.takeD (i := 19) (d := some 41) (v := .bool true) rfl rfl (by kernel_rfl) (by kernel_rfl) (by kernel_rfl) (by kernel_rfl) (fun _ _ _ h => h) (Or.inl ⟨by rfl, fun wz _ => by go_simp⟩) F1 ?_
              simp only [Act.put, List.setIfInBounds_toArray, List.set_cons_zero, List.set_cons_succ]
              -- TAKEN HA
              refine AnyT.done_ (by kernel_rfl) ?_ _
              clear F1 HPS HE0 V0 V1
              go_wp2_with fail
              go_meet
              case rel => exact ⟨true, rfl, Lib.hid (S5.out.step (Moves.refl _ _) (S5.out.mkr.more (by omega)))⟩
        case rest =>
          clear S3 HUR
          obtain ⟨bb, rfl, S⟩ := hcut
          cases bb with
          | false =>
            go_wp2_with fail
            go_roundw
            case rel => exact ⟨k + 1, _, d, M + 3, by omega, by go_num, rfl, by omega, by rw [← HNL.out]; omega, S⟩
            case measure => simp [intOf]; omega
          | true =>
            have HLN := Lib.hid (show (toZ d).length + 1 ≤ 1000000000 by rw [toZ_len, ← HNL.out]; omega)
            have S7 := Lib.hid (S.out.below ((Below.refl wc.heap.size wc).alloc (Nat.le_refl _) (.cells #[.int .i64 (y : Int)] 3)))
            go_wp2_with (first | (at_builtin; refine wpList_appI _ rfl (.tmp 42) (.tmp 44) rfl (b + 1) _ (toZ d) rfl (S.out.out.alloc _) (y : Int) wc rfl _ rfl 1 rfl HLN.out (le_allocW (w := wc) S.out.box.lt) ?_; intro v5 w5 A5))
            have S8 := Lib.hid (S7.out.app A5 (by rw [← HL.out]; exact hyL))
            go_roundw
            case rel => exact ⟨k + 1, _, d ++ [y], M + 3, by omega, by go_num, rfl, by omega, by rw [List.length_append, ← HNL.out]; simp; omega, S8⟩
            case measure => simp [intOf]; omega
    · have hkL : k = L := by omega
      subst hkL
      have HO := Lib.hid (S.out.out.base (show w.heap.size ≤ b + 1 by have := HBQ.out; omega))
      have HK := Lib.hid (S.out.mkr.more hM)
      go_wp2_with fail
      go_ret
      exact ⟨_, d, rfl, HO.out, S.out.ok, by rw [← HL.out]; exact hd, HK.out, S.out.mv⟩
end Go.Proofs.Ytcplanafcnnodaa
