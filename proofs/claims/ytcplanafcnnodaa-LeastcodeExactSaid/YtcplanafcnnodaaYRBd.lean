/-
  Stage 13: the reference's Bound.
-/
import Derived.Test.YtcplanafcnnodaaYBnd
import Derived.Test.YtcplanafcnnodaaJRef3
import Derived.Test.YtcplanafcnnodaaKRef2
set_option linter.unusedSimpArgs false
set_option linter.unusedVariables false
namespace Go.Proofs.Ytcplanafcnnodaa
open Go.RowKit Go.Lib

theorem vk_str {l : List It} {x y : Nat} {m : Int} (h : rel l x y ≠ 0) : vk (rel l x y) m = m + str1 l x y := by
  unfold vk str1
  rcases rel_cases l x y with e | e | e
  · exact absurd e h
  · rw [e]; simp
  · rw [e]; simp
set_option maxRecDepth 100000 in
set_option maxHeartbeats 3200000 in
theorem rbound_any (l : List It) (A C : Option Addr) (c cc L n : Nat) (wt : Int) (hL : L = l.length) (cs : List Int) (hn : n = cs.length) (hm : n ≤ maxLen) (w : World) (hi : IRow w A l) (hc : Row .i64 w w.heap.size C cs) :
    Calls Try.prog 46 #[jv A L c wt, .slice C n cc] w fun e w' => e = .returned (R2 (boundE l wt cs)) ∧ Below w.heap.size w w' := by
  have hm' : n ≤ 9223372036854775807 := hm
  have HI := Lib.hid hi
  have HC := Lib.hid hc
  have HL := Lib.hid hL
  have HN := Lib.hid hn
  have HVL := Lib.hid (fun (W : World) (k : IRow W A l) => rvalid_any l A c wt W k)
  have HKI := Lib.hid (fun (x y : Nat) (hx : x < L) (hy : y < L) (W : World) (k : IRow W A l) => kind_any l A c wt x y (by rw [← hL]; exact hx) (by rw [← hL]; exact hy) W k)
  have HSI := Lib.hid (fun (x y : Nat) (hx : x < L) (hy : y < L) (W : World) (k : IRow W A l) => strict_any l A c wt x y (by rw [← hL]; exact hx) (by rw [← hL]; exact hy) W k)
  rw [← hL] at HVL HKI HSI
  have HE := Lib.hid (show boundE l wt cs = if validR l wt ≠ 0 then (0, validR l wt) else if chB l none cs = true then bnd l wt none 0 (cs.map Int.toNat) else (0, 1) from rfl)
  have J0 := Lib.hid (JBox.new (w := w) (A := A) (n := L) (c := c) (wt := wt) w.heap.size rfl)
  have B0 := Lib.hid ((Below.refl w.heap.size w).alloc (Nat.le_refl _) (.cells #[.slice A L c, .int .i64 wt] 24))
  obtain ⟨b, hb⟩ : ∃ b, b = w.heap.size := ⟨_, rfl⟩
  clear hi hc hL hn hm
  go_enter Try.func46, Try.ntmps46
  go_upto_region 1 with fail
  rw [← hb] at J0 ⊢
  generalize w.alloc (.cells #[.slice A L c, .int .i64 wt] 24) = w1 at *
  clear hb
  obtain ⟨j0, j1, jl⟩ := J0.out
  go_wp2_with fail
  refine (HVL.out w1 (HI.out.below B0.out)).mono ?_
  rintro e w2 ⟨rfl, hB2⟩
  have J2 := Lib.hid (J0.out.below hB2 jl)
  have B2 := Lib.hid (B0.out.trans (hB2.mono B0.out.size))
  clear j0 j1 jl J0 B0 hB2 HVL
  by_cases he : validR l wt = 0
  · have HV := Lib.hid he
    have hE := HE.out
    rw [if_neg (fun g => g he)] at hE
    have HE := Lib.hid hE
    have hL96 : L ≤ 96 := by have := (valid_ok he).1; have := HL.out; omega
    rw [he]
    clear he hE
    go_wp2_with fail
    go_loopw [7] (fun iv wr => ∃ k : Nat, k ≤ n ∧ iv = .int .i64 (k : Int) ∧ Hid (∃ p, chB l none cs = chB l p (cs.drop k) ∧ (k = 0 → p = none) ∧ (0 < k → ∃ q : Nat, p = some q ∧ q < L ∧ cs.getD (k - 1) 0 = (q : Int))) ∧ Hid (Below w2.heap.size w2 wr)) (fun iv _ => n - (intOf iv).toNat)
    case atStart => exact ⟨0, by omega, rfl, Lib.hid ⟨none, rfl, fun _ => rfl, fun h => absurd h (Nat.lt_irrefl _)⟩, Lib.hid (Below.refl _ _)⟩
    case round =>
      obtain ⟨k, hk, rfl, P, BR⟩ := hrel
      have BW := Lib.hid (B2.out.trans (BR.out.mono B2.out.size))
      by_cases hlt : k < n
      · obtain ⟨ad, rfl, _, ck⟩ := (HC.out.below BW.out) k (by rw [← HN.out]; exact hlt)
        obtain ⟨x, hx⟩ : ∃ x, x = cs.getD k 0 := ⟨_, rfl⟩
        have hd := drop_I (d := cs) (k := k) (by rw [← HN.out]; exact hlt)
        rw [← hx] at ck hd
        have HD := Lib.hid hd
        have HX := Lib.hid hx
        obtain ⟨j0, j1, jl⟩ := (J2.out.below BR.out J2.out.lt)
        have hki : (k : Int) < (n : Int) := by omega
        clear hd hx
        by_cases hx0 : x < 0
        · obtain ⟨p, hp, _⟩ := P.out
          have HF := Lib.hid (show boundE l wt cs = (0, 1) by rw [HE.out, hp, HD.out, chB_bad (by omega), if_neg (by decide)])
          clear hp
          have ltk := lt_of_cell ck
          have HPS := Lib.hid (fun (Y : World) (hY : Below wr.heap.size wr Y) => (show Y.cell? ⟨b, 0, none⟩ = some (.slice A L c) ∧ Y.cell? ⟨b, 1, none⟩ = some (.int .i64 wt) ∧ Y.cell? (ad.add k) = some (.int .i64 x) from
            ⟨(hY.cell (p := ⟨b, 0, none⟩) jl).trans j0, (hY.cell (p := ⟨b, 1, none⟩) jl).trans j1, (hY.cell ltk).trans ck⟩))
          clear ltk
          go_upto_region 7 with fail
          clear ck j0 j1
          obtain ⟨q0, e0⟩ : ∃ x, x = wr.drew := ⟨_, rfl⟩
          have K0 := Lib.hid (show Below wr.heap.size wr q0 from by rw [e0]; exact (Below.refl _ _).drew)
          have F0 := HPS.out q0 K0.out
          have HE0 := Lib.hid e0
          clear e0
          refine AnyT.begin_at tlN (fun Y => Y.cell? ⟨b, 0, none⟩ = some (.slice A L c) ∧ Y.cell? ⟨b, 1, none⟩ = some (.int .i64 wt) ∧ Y.cell? (ad.add k) = some (.int .i64 x)) (by kernel_rfl) HE0.out F0 ?_
          clear F0
          intro F0
-- TAKES NA
          refine AnyT.takeD (i := 0) (d := some 23) (v := .slice (some ad) n cc) rfl rfl (by kernel_rfl) (by kernel_rfl) (by kernel_rfl) (by kernel_rfl) (fun _ _ _ h => h) (Or.inl ⟨by rfl, fun wz _ => by go_simp⟩) F0 ?_
          simp only [Act.put, List.setIfInBounds_toArray, List.set_cons_zero, List.set_cons_succ]
          refine AnyT.takeD (i := 1) (d := some 24) (v := .int .i64 (k : Int)) rfl rfl (by kernel_rfl) (by kernel_rfl) (by kernel_rfl) (by kernel_rfl) (fun _ _ _ h => h) (Or.inl ⟨by rfl, fun wz _ => by go_simp⟩) F0 ?_
          simp only [Act.put, List.setIfInBounds_toArray, List.set_cons_zero, List.set_cons_succ]
          refine AnyT.takeD (i := 2) (d := some 25) (v := .pointer (some (ad.add k))) rfl rfl (by kernel_rfl) (by kernel_rfl) (by kernel_rfl) (by kernel_rfl) (fun _ _ _ h => h) (Or.inl ⟨by rfl, fun wz _ => by go_simp⟩) F0 ?_
          simp only [Act.put, List.setIfInBounds_toArray, List.set_cons_zero, List.set_cons_succ]
          refine AnyT.takeD (i := 3) (d := some 26) (v := .int .i64 x) rfl rfl (by kernel_rfl) (by kernel_rfl) (by kernel_rfl) (by kernel_rfl) (fun _ _ _ h => h) (Or.inl ⟨by rfl, fun wz hz => by obtain ⟨z0, z1, z2⟩ := hz; go_simp⟩) F0 ?_
          simp only [Act.put, List.setIfInBounds_toArray, List.set_cons_zero, List.set_cons_succ]
          refine AnyT.takeD (i := 4) (d := some 27) (v := .bool true) rfl rfl (by kernel_rfl) (by kernel_rfl) (by kernel_rfl) (by kernel_rfl) (fun _ _ _ h => h) (Or.inl ⟨by rfl, fun wz _ => by go_simp⟩) F0 ?_
          simp only [Act.put, List.setIfInBounds_toArray, List.set_cons_zero, List.set_cons_succ]
          refine AnyT.takeD (i := 5) (d := some 28) (v := .bool true) rfl rfl (by kernel_rfl) (by kernel_rfl) (by kernel_rfl) (by kernel_rfl) (fun _ _ _ h => h) (Or.inl ⟨by rfl, fun wz _ => by go_simp⟩) F0 ?_
          simp only [Act.put, List.setIfInBounds_toArray, List.set_cons_zero, List.set_cons_succ]
          refine AnyT.takeD (i := 6) (d := some 29) (v := undef) rfl rfl (by kernel_rfl) (by kernel_rfl) (by kernel_rfl) (by kernel_rfl) (fun _ _ _ h => h) (Or.inr ⟨by rfl, rfl⟩) F0 ?_
          simp only [Act.put, List.setIfInBounds_toArray, List.set_cons_zero, List.set_cons_succ]
          refine AnyT.takeD (i := 7) (d := some 30) (v := undef) rfl rfl (by kernel_rfl) (by kernel_rfl) (by kernel_rfl) (by kernel_rfl) (fun _ _ _ h => h) (Or.inr ⟨by rfl, rfl⟩) F0 ?_
          simp only [Act.put, List.setIfInBounds_toArray, List.set_cons_zero, List.set_cons_succ]
          refine AnyT.takeD (i := 8) (d := some 31) (v := undef) rfl rfl (by kernel_rfl) (by kernel_rfl) (by kernel_rfl) (by kernel_rfl) (fun _ _ _ h => h) (Or.inr ⟨by rfl, rfl⟩) F0 ?_
          simp only [Act.put, List.setIfInBounds_toArray, List.set_cons_zero, List.set_cons_succ]
          refine AnyT.takeD (i := 9) (d := some 32) (v := undef) rfl rfl (by kernel_rfl) (by kernel_rfl) (by kernel_rfl) (by kernel_rfl) (fun _ _ _ h => h) (Or.inr ⟨by rfl, rfl⟩) F0 ?_
          simp only [Act.put, List.setIfInBounds_toArray, List.set_cons_zero, List.set_cons_succ]
          refine AnyT.takeD (i := 10) (d := some 33) (v := undef) rfl rfl (by kernel_rfl) (by kernel_rfl) (by kernel_rfl) (by kernel_rfl) (fun _ _ _ h => h) (Or.inr ⟨by rfl, rfl⟩) F0 ?_
          simp only [Act.put, List.setIfInBounds_toArray, List.set_cons_zero, List.set_cons_succ]
          refine AnyT.takeD (i := 11) (d := some 34) (v := undef) rfl rfl (by kernel_rfl) (by kernel_rfl) (by kernel_rfl) (by kernel_rfl) (fun _ _ _ h => h) (Or.inr ⟨by rfl, rfl⟩) F0 ?_
          simp only [Act.put, List.setIfInBounds_toArray, List.set_cons_zero, List.set_cons_succ]
          refine AnyT.takeD (i := 12) (d := some 35) (v := undef) rfl rfl (by kernel_rfl) (by kernel_rfl) (by kernel_rfl) (by kernel_rfl) (fun _ _ _ h => h) (Or.inr ⟨by rfl, rfl⟩) F0 ?_
          simp only [Act.put, List.setIfInBounds_toArray, List.set_cons_zero, List.set_cons_succ]
          refine AnyT.takeD (i := 13) (d := some 36) (v := undef) rfl rfl (by kernel_rfl) (by kernel_rfl) (by kernel_rfl) (by kernel_rfl) (fun _ _ _ h => h) (Or.inr ⟨by rfl, rfl⟩) F0 ?_
          simp only [Act.put, List.setIfInBounds_toArray, List.set_cons_zero, List.set_cons_succ]
          refine AnyT.takeD (i := 14) (d := some 37) (v := .bool true) rfl rfl (by kernel_rfl) (by kernel_rfl) (by kernel_rfl) (by kernel_rfl) (fun _ _ _ h => h) (Or.inl ⟨by rfl, fun wz _ => by go_simp⟩) F0 ?_
          simp only [Act.put, List.setIfInBounds_toArray, List.set_cons_zero, List.set_cons_succ]
          refine AnyT.takeD (i := 15) (d := some 38) (v := .bool true) rfl rfl (by kernel_rfl) (by kernel_rfl) (by kernel_rfl) (by kernel_rfl) (fun _ _ _ h => h) (Or.inl ⟨by rfl, fun wz _ => by go_simp⟩) F0 ?_
          simp only [Act.put, List.setIfInBounds_toArray, List.set_cons_zero, List.set_cons_succ]
          refine AnyT.takeD (i := 16) (d := some 39) (v := undef) rfl rfl (by kernel_rfl) (by kernel_rfl) (by kernel_rfl) (by kernel_rfl) (fun _ _ _ h => h) (Or.inr ⟨by rfl, rfl⟩) F0 ?_
          simp only [Act.put, List.setIfInBounds_toArray, List.set_cons_zero, List.set_cons_succ]
          refine AnyT.takeD (i := 17) (d := some 40) (v := undef) rfl rfl (by kernel_rfl) (by kernel_rfl) (by kernel_rfl) (by kernel_rfl) (fun _ _ _ h => h) (Or.inr ⟨by rfl, rfl⟩) F0 ?_
          simp only [Act.put, List.setIfInBounds_toArray, List.set_cons_zero, List.set_cons_succ]
          refine AnyT.takeD (i := 18) (d := some 41) (v := undef) rfl rfl (by kernel_rfl) (by kernel_rfl) (by kernel_rfl) (by kernel_rfl) (fun _ _ _ h => h) (Or.inr ⟨by rfl, rfl⟩) F0 ?_
          simp only [Act.put, List.setIfInBounds_toArray, List.set_cons_zero, List.set_cons_succ]
          refine AnyT.takeD (i := 19) (d := some 42) (v := undef) rfl rfl (by kernel_rfl) (by kernel_rfl) (by kernel_rfl) (by kernel_rfl) (fun _ _ _ h => h) (Or.inr ⟨by rfl, rfl⟩) F0 ?_
          simp only [Act.put, List.setIfInBounds_toArray, List.set_cons_zero, List.set_cons_succ]
          refine AnyT.takeD (i := 20) (d := some 43) (v := undef) rfl rfl (by kernel_rfl) (by kernel_rfl) (by kernel_rfl) (by kernel_rfl) (fun _ _ _ h => h) (Or.inr ⟨by rfl, rfl⟩) F0 ?_
          simp only [Act.put, List.setIfInBounds_toArray, List.set_cons_zero, List.set_cons_succ]
          refine AnyT.takeD (i := 21) (d := some 44) (v := undef) rfl rfl (by kernel_rfl) (by kernel_rfl) (by kernel_rfl) (by kernel_rfl) (fun _ _ _ h => h) (Or.inr ⟨by rfl, rfl⟩) F0 ?_
          simp only [Act.put, List.setIfInBounds_toArray, List.set_cons_zero, List.set_cons_succ]
          refine AnyT.takeD (i := 22) (d := some 45) (v := undef) rfl rfl (by kernel_rfl) (by kernel_rfl) (by kernel_rfl) (by kernel_rfl) (fun _ _ _ h => h) (Or.inr ⟨by rfl, rfl⟩) F0 ?_
          simp only [Act.put, List.setIfInBounds_toArray, List.set_cons_zero, List.set_cons_succ]
          refine AnyT.takeD (i := 23) (d := some 46) (v := undef) rfl rfl (by kernel_rfl) (by kernel_rfl) (by kernel_rfl) (by kernel_rfl) (fun _ _ _ h => h) (Or.inr ⟨by rfl, rfl⟩) F0 ?_
          simp only [Act.put, List.setIfInBounds_toArray, List.set_cons_zero, List.set_cons_succ]
          refine AnyT.takeD (i := 24) (d := some 47) (v := undef) rfl rfl (by kernel_rfl) (by kernel_rfl) (by kernel_rfl) (by kernel_rfl) (fun _ _ _ h => h) (Or.inr ⟨by rfl, rfl⟩) F0 ?_
          simp only [Act.put, List.setIfInBounds_toArray, List.set_cons_zero, List.set_cons_succ]
          refine AnyT.takeD (i := 25) (d := some 48) (v := undef) rfl rfl (by kernel_rfl) (by kernel_rfl) (by kernel_rfl) (by kernel_rfl) (fun _ _ _ h => h) (Or.inr ⟨by rfl, rfl⟩) F0 ?_
          simp only [Act.put, List.setIfInBounds_toArray, List.set_cons_zero, List.set_cons_succ]
          refine AnyT.takeD (i := 26) (d := some 49) (v := undef) rfl rfl (by kernel_rfl) (by kernel_rfl) (by kernel_rfl) (by kernel_rfl) (fun _ _ _ h => h) (Or.inr ⟨by rfl, rfl⟩) F0 ?_
          simp only [Act.put, List.setIfInBounds_toArray, List.set_cons_zero, List.set_cons_succ]
          refine AnyT.takeD (i := 27) (d := some 50) (v := undef) rfl rfl (by kernel_rfl) (by kernel_rfl) (by kernel_rfl) (by kernel_rfl) (fun _ _ _ h => h) (Or.inr ⟨by rfl, rfl⟩) F0 ?_
          simp only [Act.put, List.setIfInBounds_toArray, List.set_cons_zero, List.set_cons_succ]
          refine AnyT.takeD (i := 28) (d := some 51) (v := undef) rfl rfl (by kernel_rfl) (by kernel_rfl) (by kernel_rfl) (by kernel_rfl) (fun _ _ _ h => h) (Or.inr ⟨by rfl, rfl⟩) F0 ?_
          simp only [Act.put, List.setIfInBounds_toArray, List.set_cons_zero, List.set_cons_succ]
          refine AnyT.takeD (i := 29) (d := some 52) (v := undef) rfl rfl (by kernel_rfl) (by kernel_rfl) (by kernel_rfl) (by kernel_rfl) (fun _ _ _ h => h) (Or.inr ⟨by rfl, rfl⟩) F0 ?_
          simp only [Act.put, List.setIfInBounds_toArray, List.set_cons_zero, List.set_cons_succ]
          refine AnyT.takeD (i := 30) (d := some 53) (v := undef) rfl rfl (by kernel_rfl) (by kernel_rfl) (by kernel_rfl) (by kernel_rfl) (fun _ _ _ h => h) (Or.inr ⟨by rfl, rfl⟩) F0 ?_
          simp only [Act.put, List.setIfInBounds_toArray, List.set_cons_zero, List.set_cons_succ]
          refine AnyT.takeD (i := 31) (d := some 54) (v := undef) rfl rfl (by kernel_rfl) (by kernel_rfl) (by kernel_rfl) (by kernel_rfl) (fun _ _ _ h => h) (Or.inr ⟨by rfl, rfl⟩) F0 ?_
          simp only [Act.put, List.setIfInBounds_toArray, List.set_cons_zero, List.set_cons_succ]
          refine AnyT.takeD (i := 32) (d := some 55) (v := .bool true) rfl rfl (by kernel_rfl) (by kernel_rfl) (by kernel_rfl) (by kernel_rfl) (fun _ _ _ h => h) (Or.inl ⟨by rfl, fun wz _ => by go_simp⟩) F0 ?_
          simp only [Act.put, List.setIfInBounds_toArray, List.set_cons_zero, List.set_cons_succ]
          -- TAKEN NA
          refine AnyT.done_ (by kernel_rfl) ?_ _
          have BR1 := Lib.hid (BR.out.trans (K0.out.mono BR.out.size))
          have BW1 := Lib.hid (B2.out.trans (BR1.out.mono B2.out.size))
          clear F0 HPS HE0 K0
          go_wp2_with fail
          go_ret2
          exact ⟨ret_r2 HF.out, BW1.out⟩
        · by_cases hx1 : x < (L : Int)
          · obtain ⟨X, rfl⟩ := Int.eq_ofNat_of_zero_le (show 0 ≤ x by omega)
            have hX : X < L := by omega
            have hx1' : ¬ (L : Int) ≤ (X : Int) := by omega
            by_cases hk0 : k = 0
            · have HP2 := Lib.hid (show ∃ p, chB l none cs = chB l p (cs.drop (k + 1)) ∧ (k + 1 = 0 → p = none) ∧ (0 < k + 1 → ∃ q : Nat, p = some q ∧ q < L ∧ cs.getD (k + 1 - 1) 0 = (q : Int)) by
                obtain ⟨p, hp, h0, _⟩ := P.out
                rw [h0 hk0, HD.out, chB_none (by rw [← HL.out]; exact hX)] at hp
                exact ⟨_, hp, (fun h => by omega), fun _ => ⟨X, rfl, hX, HX.out.symm⟩⟩)
              have hkz : ¬ 0 < k := by omega
              have hkzi : ¬ (0 : Int) < (k : Int) := by omega
              clear P HD hk0
              have ltk := lt_of_cell ck
              have HPS := Lib.hid (fun (Y : World) (hY : Below wr.heap.size wr Y) => (show Y.cell? ⟨b, 0, none⟩ = some (.slice A L c) ∧ Y.cell? ⟨b, 1, none⟩ = some (.int .i64 wt) ∧ Y.cell? (ad.add k) = some (.int .i64 (X : Int)) from
                ⟨(hY.cell (p := ⟨b, 0, none⟩) jl).trans j0, (hY.cell (p := ⟨b, 1, none⟩) jl).trans j1, (hY.cell ltk).trans ck⟩))
              clear ltk
              go_upto_region 7 with fail
              clear ck j0 j1
              obtain ⟨q0, e0⟩ : ∃ x, x = wr.drew := ⟨_, rfl⟩
              have K0 := Lib.hid (show Below wr.heap.size wr q0 from by rw [e0]; exact (Below.refl _ _).drew)
              have F0 := HPS.out q0 K0.out
              have HE0 := Lib.hid e0
              clear e0
              refine AnyT.begin_at tlN (fun Y => Y.cell? ⟨b, 0, none⟩ = some (.slice A L c) ∧ Y.cell? ⟨b, 1, none⟩ = some (.int .i64 wt) ∧ Y.cell? (ad.add k) = some (.int .i64 (X : Int))) (by kernel_rfl) HE0.out F0 ?_
              clear F0
              intro F0
-- TAKES NC
              refine AnyT.takeD (i := 0) (d := some 23) (v := .slice (some ad) n cc) rfl rfl (by kernel_rfl) (by kernel_rfl) (by kernel_rfl) (by kernel_rfl) (fun _ _ _ h => h) (Or.inl ⟨by rfl, fun wz _ => by go_simp⟩) F0 ?_
              simp only [Act.put, List.setIfInBounds_toArray, List.set_cons_zero, List.set_cons_succ]
              refine AnyT.takeD (i := 1) (d := some 24) (v := .int .i64 (k : Int)) rfl rfl (by kernel_rfl) (by kernel_rfl) (by kernel_rfl) (by kernel_rfl) (fun _ _ _ h => h) (Or.inl ⟨by rfl, fun wz _ => by go_simp⟩) F0 ?_
              simp only [Act.put, List.setIfInBounds_toArray, List.set_cons_zero, List.set_cons_succ]
              refine AnyT.takeD (i := 2) (d := some 25) (v := .pointer (some (ad.add k))) rfl rfl (by kernel_rfl) (by kernel_rfl) (by kernel_rfl) (by kernel_rfl) (fun _ _ _ h => h) (Or.inl ⟨by rfl, fun wz _ => by go_simp⟩) F0 ?_
              simp only [Act.put, List.setIfInBounds_toArray, List.set_cons_zero, List.set_cons_succ]
              refine AnyT.takeD (i := 3) (d := some 26) (v := .int .i64 (X : Int)) rfl rfl (by kernel_rfl) (by kernel_rfl) (by kernel_rfl) (by kernel_rfl) (fun _ _ _ h => h) (Or.inl ⟨by rfl, fun wz hz => by obtain ⟨z0, z1, z2⟩ := hz; go_simp⟩) F0 ?_
              simp only [Act.put, List.setIfInBounds_toArray, List.set_cons_zero, List.set_cons_succ]
              refine AnyT.takeD (i := 4) (d := some 27) (v := .bool false) rfl rfl (by kernel_rfl) (by kernel_rfl) (by kernel_rfl) (by kernel_rfl) (fun _ _ _ h => h) (Or.inl ⟨by rfl, fun wz _ => by go_simp⟩) F0 ?_
              simp only [Act.put, List.setIfInBounds_toArray, List.set_cons_zero, List.set_cons_succ]
              refine AnyT.takeD (i := 5) (d := some 28) (v := .bool false) rfl rfl (by kernel_rfl) (by kernel_rfl) (by kernel_rfl) (by kernel_rfl) (fun _ _ _ h => h) (Or.inl ⟨by rfl, fun wz _ => by go_simp⟩) F0 ?_
              simp only [Act.put, List.setIfInBounds_toArray, List.set_cons_zero, List.set_cons_succ]
              refine AnyT.takeD (i := 6) (d := some 29) (v := .slice (some ad) n cc) rfl rfl (by kernel_rfl) (by kernel_rfl) (by kernel_rfl) (by kernel_rfl) (fun _ _ _ h => h) (Or.inl ⟨by rfl, fun wz _ => by go_simp⟩) F0 ?_
              simp only [Act.put, List.setIfInBounds_toArray, List.set_cons_zero, List.set_cons_succ]
              refine AnyT.takeD (i := 7) (d := some 30) (v := .int .i64 (k : Int)) rfl rfl (by kernel_rfl) (by kernel_rfl) (by kernel_rfl) (by kernel_rfl) (fun _ _ _ h => h) (Or.inl ⟨by rfl, fun wz _ => by go_simp⟩) F0 ?_
              simp only [Act.put, List.setIfInBounds_toArray, List.set_cons_zero, List.set_cons_succ]
              refine AnyT.takeD (i := 8) (d := some 31) (v := .pointer (some (ad.add k))) rfl rfl (by kernel_rfl) (by kernel_rfl) (by kernel_rfl) (by kernel_rfl) (fun _ _ _ h => h) (Or.inl ⟨by rfl, fun wz _ => by go_simp⟩) F0 ?_
              simp only [Act.put, List.setIfInBounds_toArray, List.set_cons_zero, List.set_cons_succ]
              refine AnyT.takeD (i := 9) (d := some 32) (v := .int .i64 (X : Int)) rfl rfl (by kernel_rfl) (by kernel_rfl) (by kernel_rfl) (by kernel_rfl) (fun _ _ _ h => h) (Or.inl ⟨by rfl, fun wz hz => by obtain ⟨z0, z1, z2⟩ := hz; go_simp⟩) F0 ?_
              simp only [Act.put, List.setIfInBounds_toArray, List.set_cons_zero, List.set_cons_succ]
              refine AnyT.takeD (i := 10) (d := some 33) (v := .pointer (some ⟨b, 0, none⟩)) rfl rfl (by kernel_rfl) (by kernel_rfl) (by kernel_rfl) (by kernel_rfl) (fun _ _ _ h => h) (Or.inl ⟨by rfl, fun wz _ => by go_simp⟩) F0 ?_
              simp only [Act.put, List.setIfInBounds_toArray, List.set_cons_zero, List.set_cons_succ]
              refine AnyT.takeD (i := 11) (d := some 34) (v := .slice A L c) rfl rfl (by kernel_rfl) (by kernel_rfl) (by kernel_rfl) (by kernel_rfl) (fun _ _ _ h => h) (Or.inl ⟨by rfl, fun wz hz => by obtain ⟨z0, z1, z2⟩ := hz; go_simp⟩) F0 ?_
              simp only [Act.put, List.setIfInBounds_toArray, List.set_cons_zero, List.set_cons_succ]
              refine AnyT.takeD (i := 12) (d := some 35) (v := .int .i64 (L : Int)) rfl rfl (by kernel_rfl) (by kernel_rfl) (by kernel_rfl) (by kernel_rfl) (fun _ _ _ h => h) (Or.inl ⟨by rfl, fun wz _ => by go_simp⟩) F0 ?_
              simp only [Act.put, List.setIfInBounds_toArray, List.set_cons_zero, List.set_cons_succ]
              refine AnyT.takeD (i := 13) (d := some 36) (v := .bool false) rfl rfl (by kernel_rfl) (by kernel_rfl) (by kernel_rfl) (by kernel_rfl) (fun _ _ _ h => h) (Or.inl ⟨by rfl, fun wz _ => by go_simp⟩) F0 ?_
              simp only [Act.put, List.setIfInBounds_toArray, List.set_cons_zero, List.set_cons_succ]
              refine AnyT.takeD (i := 14) (d := some 37) (v := .bool false) rfl rfl (by kernel_rfl) (by kernel_rfl) (by kernel_rfl) (by kernel_rfl) (fun _ _ _ h => h) (Or.inl ⟨by rfl, fun wz _ => by go_simp⟩) F0 ?_
              simp only [Act.put, List.setIfInBounds_toArray, List.set_cons_zero, List.set_cons_succ]
              refine AnyT.takeD (i := 15) (d := some 38) (v := .bool false) rfl rfl (by kernel_rfl) (by kernel_rfl) (by kernel_rfl) (by kernel_rfl) (fun _ _ _ h => h) (Or.inl ⟨by rfl, fun wz _ => by go_simp⟩) F0 ?_
              simp only [Act.put, List.setIfInBounds_toArray, List.set_cons_zero, List.set_cons_succ]
              refine AnyT.takeD (i := 16) (d := some 39) (v := .int .i64 (k : Int)) rfl rfl (by kernel_rfl) (by kernel_rfl) (by kernel_rfl) (by kernel_rfl) (fun _ _ _ h => h) (Or.inl ⟨by rfl, fun wz _ => by go_simp⟩) F0 ?_
              simp only [Act.put, List.setIfInBounds_toArray, List.set_cons_zero, List.set_cons_succ]
              refine AnyT.takeD (i := 17) (d := some 40) (v := .bool false) rfl rfl (by kernel_rfl) (by kernel_rfl) (by kernel_rfl) (by kernel_rfl) (fun _ _ _ h => h) (Or.inl ⟨by rfl, fun wz _ => by go_simp⟩) F0 ?_
              simp only [Act.put, List.setIfInBounds_toArray, List.set_cons_zero, List.set_cons_succ]
              refine AnyT.takeD (i := 18) (d := some 41) (v := .bool false) rfl rfl (by kernel_rfl) (by kernel_rfl) (by kernel_rfl) (by kernel_rfl) (fun _ _ _ h => h) (Or.inl ⟨by rfl, fun wz _ => by go_simp⟩) F0 ?_
              simp only [Act.put, List.setIfInBounds_toArray, List.set_cons_zero, List.set_cons_succ]
              refine AnyT.takeD (i := 19) (d := some 42) (v := undef) rfl rfl (by kernel_rfl) (by kernel_rfl) (by kernel_rfl) (by kernel_rfl) (fun _ _ _ h => h) (Or.inr ⟨by rfl, rfl⟩) F0 ?_
              simp only [Act.put, List.setIfInBounds_toArray, List.set_cons_zero, List.set_cons_succ]
              refine AnyT.takeD (i := 20) (d := some 43) (v := undef) rfl rfl (by kernel_rfl) (by kernel_rfl) (by kernel_rfl) (by kernel_rfl) (fun _ _ _ h => h) (Or.inr ⟨by rfl, rfl⟩) F0 ?_
              simp only [Act.put, List.setIfInBounds_toArray, List.set_cons_zero, List.set_cons_succ]
              refine AnyT.takeD (i := 21) (d := some 44) (v := undef) rfl rfl (by kernel_rfl) (by kernel_rfl) (by kernel_rfl) (by kernel_rfl) (fun _ _ _ h => h) (Or.inr ⟨by rfl, rfl⟩) F0 ?_
              simp only [Act.put, List.setIfInBounds_toArray, List.set_cons_zero, List.set_cons_succ]
              refine AnyT.takeD (i := 22) (d := some 45) (v := undef) rfl rfl (by kernel_rfl) (by kernel_rfl) (by kernel_rfl) (by kernel_rfl) (fun _ _ _ h => h) (Or.inr ⟨by rfl, rfl⟩) F0 ?_
              simp only [Act.put, List.setIfInBounds_toArray, List.set_cons_zero, List.set_cons_succ]
              refine AnyT.takeD (i := 23) (d := some 46) (v := undef) rfl rfl (by kernel_rfl) (by kernel_rfl) (by kernel_rfl) (by kernel_rfl) (fun _ _ _ h => h) (Or.inr ⟨by rfl, rfl⟩) F0 ?_
              simp only [Act.put, List.setIfInBounds_toArray, List.set_cons_zero, List.set_cons_succ]
              refine AnyT.takeD (i := 24) (d := some 47) (v := undef) rfl rfl (by kernel_rfl) (by kernel_rfl) (by kernel_rfl) (by kernel_rfl) (fun _ _ _ h => h) (Or.inr ⟨by rfl, rfl⟩) F0 ?_
              simp only [Act.put, List.setIfInBounds_toArray, List.set_cons_zero, List.set_cons_succ]
              refine AnyT.takeD (i := 25) (d := some 48) (v := undef) rfl rfl (by kernel_rfl) (by kernel_rfl) (by kernel_rfl) (by kernel_rfl) (fun _ _ _ h => h) (Or.inr ⟨by rfl, rfl⟩) F0 ?_
              simp only [Act.put, List.setIfInBounds_toArray, List.set_cons_zero, List.set_cons_succ]
              refine AnyT.takeD (i := 26) (d := some 49) (v := undef) rfl rfl (by kernel_rfl) (by kernel_rfl) (by kernel_rfl) (by kernel_rfl) (fun _ _ _ h => h) (Or.inr ⟨by rfl, rfl⟩) F0 ?_
              simp only [Act.put, List.setIfInBounds_toArray, List.set_cons_zero, List.set_cons_succ]
              refine AnyT.takeD (i := 27) (d := some 50) (v := undef) rfl rfl (by kernel_rfl) (by kernel_rfl) (by kernel_rfl) (by kernel_rfl) (fun _ _ _ h => h) (Or.inr ⟨by rfl, rfl⟩) F0 ?_
              simp only [Act.put, List.setIfInBounds_toArray, List.set_cons_zero, List.set_cons_succ]
              refine AnyT.takeD (i := 28) (d := some 51) (v := undef) rfl rfl (by kernel_rfl) (by kernel_rfl) (by kernel_rfl) (by kernel_rfl) (fun _ _ _ h => h) (Or.inr ⟨by rfl, rfl⟩) F0 ?_
              simp only [Act.put, List.setIfInBounds_toArray, List.set_cons_zero, List.set_cons_succ]
              refine AnyT.takeD (i := 29) (d := some 52) (v := undef) rfl rfl (by kernel_rfl) (by kernel_rfl) (by kernel_rfl) (by kernel_rfl) (fun _ _ _ h => h) (Or.inr ⟨by rfl, rfl⟩) F0 ?_
              simp only [Act.put, List.setIfInBounds_toArray, List.set_cons_zero, List.set_cons_succ]
              refine AnyT.takeD (i := 30) (d := some 53) (v := undef) rfl rfl (by kernel_rfl) (by kernel_rfl) (by kernel_rfl) (by kernel_rfl) (fun _ _ _ h => h) (Or.inr ⟨by rfl, rfl⟩) F0 ?_
              simp only [Act.put, List.setIfInBounds_toArray, List.set_cons_zero, List.set_cons_succ]
              refine AnyT.takeD (i := 31) (d := some 54) (v := .bool false) rfl rfl (by kernel_rfl) (by kernel_rfl) (by kernel_rfl) (by kernel_rfl) (fun _ _ _ h => h) (Or.inl ⟨by rfl, fun wz _ => by go_simp⟩) F0 ?_
              simp only [Act.put, List.setIfInBounds_toArray, List.set_cons_zero, List.set_cons_succ]
              refine AnyT.takeD (i := 32) (d := some 55) (v := .bool false) rfl rfl (by kernel_rfl) (by kernel_rfl) (by kernel_rfl) (by kernel_rfl) (fun _ _ _ h => h) (Or.inl ⟨by rfl, fun wz _ => by go_simp⟩) F0 ?_
              simp only [Act.put, List.setIfInBounds_toArray, List.set_cons_zero, List.set_cons_succ]
              -- TAKEN NC
              refine AnyT.done_ (by kernel_rfl) ?_ _
              have BR1 := Lib.hid (BR.out.trans (K0.out.mono BR.out.size))
              have BW1 := Lib.hid (B2.out.trans (BR1.out.mono B2.out.size))
              clear F0 HPS HE0 K0
              go_wp2_with fail
              go_roundw
              case rel => exact ⟨k + 1, by omega, by go_num, HP2, BR1⟩
              case measure => simp [intOf]; omega
            · have hkp : 0 < k := by omega
              obtain ⟨p, hp, _, h1⟩ := P.out
              obtain ⟨q, rfl, hq, hcq⟩ := h1 hkp
              rw [HD.out, chB_some (by rw [← HL.out]; exact hX)] at hp
              have HP := Lib.hid hp
              obtain ⟨k1, hk1⟩ : ∃ k1, k1 = k - 1 := ⟨_, rfl⟩
              obtain ⟨ad', e', _, cq⟩ := (HC.out.below BW.out) k1 (by rw [← HN.out]; omega)
              obtain rfl : ad = ad' := by injection e'
              rw [← hk1] at hcq
              rw [hcq] at cq
              have HR := Lib.hid (fun W kb => HKI.out q X hq hX W kb)
              obtain ⟨r, hr⟩ : ∃ r, r = rel l q X := ⟨_, rfl⟩
              rw [← hr] at HR
              have HRR := Lib.hid hr
              have ltq := lt_of_cell cq
              have ltk := lt_of_cell ck
              have HPS := Lib.hid (fun (Y : World) (hY : Below wr.heap.size wr Y) => (show Y.cell? ⟨b, 0, none⟩ = some (.slice A L c) ∧ Y.cell? ⟨b, 1, none⟩ = some (.int .i64 wt) ∧ Y.cell? (ad.add k1) = some (.int .i64 (q : Int)) ∧ Y.cell? (ad.add k) = some (.int .i64 (X : Int)) from
                ⟨(hY.cell (p := ⟨b, 0, none⟩) jl).trans j0, (hY.cell (p := ⟨b, 1, none⟩) jl).trans j1, (hY.cell ltq).trans cq, (hY.cell ltk).trans ck⟩))
              have hki0 : (0 : Int) < (k : Int) := by omega
              have hk1e : (k : Int) - 1 = (k1 : Int) := by omega
              have hk1n : (k1 : Int) < (n : Int) := by omega
              have hwk : IntKind.i64.wrap (k1 : Int) = (k1 : Int) := IntWalk.i64_in _ (by omega)
              clear P HD hp h1 e' hcq hr ltq ltk cq hk1
              clear hk0
              go_upto_region 7 with fail
              clear ck j0 j1
              obtain ⟨q0, e0⟩ : ∃ x, x = wr.drew := ⟨_, rfl⟩
              have K0 := Lib.hid (show Below wr.heap.size wr q0 from by rw [e0]; exact (Below.refl _ _).drew)
              have F0 := HPS.out q0 K0.out
              have HE0 := Lib.hid e0
              clear e0
              refine AnyT.begin_at tlN (fun Y => Y.cell? ⟨b, 0, none⟩ = some (.slice A L c) ∧ Y.cell? ⟨b, 1, none⟩ = some (.int .i64 wt) ∧ Y.cell? (ad.add k1) = some (.int .i64 (q : Int)) ∧ Y.cell? (ad.add k) = some (.int .i64 (X : Int))) (by kernel_rfl) HE0.out F0 ?_
              clear F0
              intro F0
-- TAKES N1
              refine AnyT.takeD (i := 0) (d := some 23) (v := .slice (some ad) n cc) rfl rfl (by kernel_rfl) (by kernel_rfl) (by kernel_rfl) (by kernel_rfl) (fun _ _ _ h => h) (Or.inl ⟨by rfl, fun wz _ => by go_simp⟩) F0 ?_
              simp only [Act.put, List.setIfInBounds_toArray, List.set_cons_zero, List.set_cons_succ]
              refine AnyT.takeD (i := 1) (d := some 24) (v := .int .i64 (k : Int)) rfl rfl (by kernel_rfl) (by kernel_rfl) (by kernel_rfl) (by kernel_rfl) (fun _ _ _ h => h) (Or.inl ⟨by rfl, fun wz _ => by go_simp⟩) F0 ?_
              simp only [Act.put, List.setIfInBounds_toArray, List.set_cons_zero, List.set_cons_succ]
              refine AnyT.takeD (i := 2) (d := some 25) (v := .pointer (some (ad.add k))) rfl rfl (by kernel_rfl) (by kernel_rfl) (by kernel_rfl) (by kernel_rfl) (fun _ _ _ h => h) (Or.inl ⟨by rfl, fun wz _ => by go_simp⟩) F0 ?_
              simp only [Act.put, List.setIfInBounds_toArray, List.set_cons_zero, List.set_cons_succ]
              refine AnyT.takeD (i := 3) (d := some 26) (v := .int .i64 (X : Int)) rfl rfl (by kernel_rfl) (by kernel_rfl) (by kernel_rfl) (by kernel_rfl) (fun _ _ _ h => h) (Or.inl ⟨by rfl, fun wz hz => by obtain ⟨z0, z1, z2, z3⟩ := hz; go_simp⟩) F0 ?_
              simp only [Act.put, List.setIfInBounds_toArray, List.set_cons_zero, List.set_cons_succ]
              refine AnyT.takeD (i := 4) (d := some 27) (v := .bool false) rfl rfl (by kernel_rfl) (by kernel_rfl) (by kernel_rfl) (by kernel_rfl) (fun _ _ _ h => h) (Or.inl ⟨by rfl, fun wz _ => by go_simp⟩) F0 ?_
              simp only [Act.put, List.setIfInBounds_toArray, List.set_cons_zero, List.set_cons_succ]
              refine AnyT.takeD (i := 5) (d := some 28) (v := .bool false) rfl rfl (by kernel_rfl) (by kernel_rfl) (by kernel_rfl) (by kernel_rfl) (fun _ _ _ h => h) (Or.inl ⟨by rfl, fun wz _ => by go_simp⟩) F0 ?_
              simp only [Act.put, List.setIfInBounds_toArray, List.set_cons_zero, List.set_cons_succ]
              refine AnyT.takeD (i := 6) (d := some 29) (v := .slice (some ad) n cc) rfl rfl (by kernel_rfl) (by kernel_rfl) (by kernel_rfl) (by kernel_rfl) (fun _ _ _ h => h) (Or.inl ⟨by rfl, fun wz _ => by go_simp⟩) F0 ?_
              simp only [Act.put, List.setIfInBounds_toArray, List.set_cons_zero, List.set_cons_succ]
              refine AnyT.takeD (i := 7) (d := some 30) (v := .int .i64 (k : Int)) rfl rfl (by kernel_rfl) (by kernel_rfl) (by kernel_rfl) (by kernel_rfl) (fun _ _ _ h => h) (Or.inl ⟨by rfl, fun wz _ => by go_simp⟩) F0 ?_
              simp only [Act.put, List.setIfInBounds_toArray, List.set_cons_zero, List.set_cons_succ]
              refine AnyT.takeD (i := 8) (d := some 31) (v := .pointer (some (ad.add k))) rfl rfl (by kernel_rfl) (by kernel_rfl) (by kernel_rfl) (by kernel_rfl) (fun _ _ _ h => h) (Or.inl ⟨by rfl, fun wz _ => by go_simp⟩) F0 ?_
              simp only [Act.put, List.setIfInBounds_toArray, List.set_cons_zero, List.set_cons_succ]
              refine AnyT.takeD (i := 9) (d := some 32) (v := .int .i64 (X : Int)) rfl rfl (by kernel_rfl) (by kernel_rfl) (by kernel_rfl) (by kernel_rfl) (fun _ _ _ h => h) (Or.inl ⟨by rfl, fun wz hz => by obtain ⟨z0, z1, z2, z3⟩ := hz; go_simp⟩) F0 ?_
              simp only [Act.put, List.setIfInBounds_toArray, List.set_cons_zero, List.set_cons_succ]
              refine AnyT.takeD (i := 10) (d := some 33) (v := .pointer (some ⟨b, 0, none⟩)) rfl rfl (by kernel_rfl) (by kernel_rfl) (by kernel_rfl) (by kernel_rfl) (fun _ _ _ h => h) (Or.inl ⟨by rfl, fun wz _ => by go_simp⟩) F0 ?_
              simp only [Act.put, List.setIfInBounds_toArray, List.set_cons_zero, List.set_cons_succ]
              refine AnyT.takeD (i := 11) (d := some 34) (v := .slice A L c) rfl rfl (by kernel_rfl) (by kernel_rfl) (by kernel_rfl) (by kernel_rfl) (fun _ _ _ h => h) (Or.inl ⟨by rfl, fun wz hz => by obtain ⟨z0, z1, z2, z3⟩ := hz; go_simp⟩) F0 ?_
              simp only [Act.put, List.setIfInBounds_toArray, List.set_cons_zero, List.set_cons_succ]
              refine AnyT.takeD (i := 12) (d := some 35) (v := .int .i64 (L : Int)) rfl rfl (by kernel_rfl) (by kernel_rfl) (by kernel_rfl) (by kernel_rfl) (fun _ _ _ h => h) (Or.inl ⟨by rfl, fun wz _ => by go_simp⟩) F0 ?_
              simp only [Act.put, List.setIfInBounds_toArray, List.set_cons_zero, List.set_cons_succ]
              refine AnyT.takeD (i := 13) (d := some 36) (v := .bool false) rfl rfl (by kernel_rfl) (by kernel_rfl) (by kernel_rfl) (by kernel_rfl) (fun _ _ _ h => h) (Or.inl ⟨by rfl, fun wz _ => by go_simp⟩) F0 ?_
              simp only [Act.put, List.setIfInBounds_toArray, List.set_cons_zero, List.set_cons_succ]
              refine AnyT.takeD (i := 14) (d := some 37) (v := .bool false) rfl rfl (by kernel_rfl) (by kernel_rfl) (by kernel_rfl) (by kernel_rfl) (fun _ _ _ h => h) (Or.inl ⟨by rfl, fun wz _ => by go_simp⟩) F0 ?_
              simp only [Act.put, List.setIfInBounds_toArray, List.set_cons_zero, List.set_cons_succ]
              refine AnyT.takeD (i := 15) (d := some 38) (v := .bool false) rfl rfl (by kernel_rfl) (by kernel_rfl) (by kernel_rfl) (by kernel_rfl) (fun _ _ _ h => h) (Or.inl ⟨by rfl, fun wz _ => by go_simp⟩) F0 ?_
              simp only [Act.put, List.setIfInBounds_toArray, List.set_cons_zero, List.set_cons_succ]
              refine AnyT.takeD (i := 16) (d := some 39) (v := .int .i64 (k : Int)) rfl rfl (by kernel_rfl) (by kernel_rfl) (by kernel_rfl) (by kernel_rfl) (fun _ _ _ h => h) (Or.inl ⟨by rfl, fun wz _ => by go_simp⟩) F0 ?_
              simp only [Act.put, List.setIfInBounds_toArray, List.set_cons_zero, List.set_cons_succ]
              refine AnyT.takeD (i := 17) (d := some 40) (v := .bool true) rfl rfl (by kernel_rfl) (by kernel_rfl) (by kernel_rfl) (by kernel_rfl) (fun _ _ _ h => h) (Or.inl ⟨by rfl, fun wz _ => by go_simp⟩) F0 ?_
              simp only [Act.put, List.setIfInBounds_toArray, List.set_cons_zero, List.set_cons_succ]
              refine AnyT.takeD (i := 18) (d := some 41) (v := .bool true) rfl rfl (by kernel_rfl) (by kernel_rfl) (by kernel_rfl) (by kernel_rfl) (fun _ _ _ h => h) (Or.inl ⟨by rfl, fun wz _ => by go_simp⟩) F0 ?_
              simp only [Act.put, List.setIfInBounds_toArray, List.set_cons_zero, List.set_cons_succ]
              refine AnyT.takeD (i := 19) (d := some 42) (v := jv A L c wt) rfl rfl (by kernel_rfl) (by kernel_rfl) (by kernel_rfl) (by kernel_rfl) (fun _ _ _ h => h) (Or.inl ⟨by rfl, fun wz hz => by obtain ⟨z0, z1, z2, z3⟩ := hz; go_simp⟩) F0 ?_
              simp only [Act.put, List.setIfInBounds_toArray, List.set_cons_zero, List.set_cons_succ]
              refine AnyT.takeD (i := 20) (d := some 43) (v := .slice (some ad) n cc) rfl rfl (by kernel_rfl) (by kernel_rfl) (by kernel_rfl) (by kernel_rfl) (fun _ _ _ h => h) (Or.inl ⟨by rfl, fun wz _ => by go_simp⟩) F0 ?_
              simp only [Act.put, List.setIfInBounds_toArray, List.set_cons_zero, List.set_cons_succ]
              refine AnyT.takeD (i := 21) (d := some 44) (v := .int .i64 (k : Int)) rfl rfl (by kernel_rfl) (by kernel_rfl) (by kernel_rfl) (by kernel_rfl) (fun _ _ _ h => h) (Or.inl ⟨by rfl, fun wz _ => by go_simp⟩) F0 ?_
              simp only [Act.put, List.setIfInBounds_toArray, List.set_cons_zero, List.set_cons_succ]
              refine AnyT.takeD (i := 22) (d := some 45) (v := .int .i64 (k1 : Int)) rfl rfl (by kernel_rfl) (by kernel_rfl) (by kernel_rfl) (by kernel_rfl) (fun _ _ _ h => h) (Or.inl ⟨by rfl, fun wz _ => by go_simp⟩) F0 ?_
              simp only [Act.put, List.setIfInBounds_toArray, List.set_cons_zero, List.set_cons_succ]
              refine AnyT.takeD (i := 23) (d := some 46) (v := .pointer (some (ad.add k1))) rfl rfl (by kernel_rfl) (by kernel_rfl) (by kernel_rfl) (by kernel_rfl) (fun _ _ _ h => h) (Or.inl ⟨by rfl, fun wz _ => by go_simp⟩) F0 ?_
              simp only [Act.put, List.setIfInBounds_toArray, List.set_cons_zero, List.set_cons_succ]
              refine AnyT.takeD (i := 24) (d := some 47) (v := .int .i64 (q : Int)) rfl rfl (by kernel_rfl) (by kernel_rfl) (by kernel_rfl) (by kernel_rfl) (fun _ _ _ h => h) (Or.inl ⟨by rfl, fun wz hz => by obtain ⟨z0, z1, z2, z3⟩ := hz; go_simp⟩) F0 ?_
              simp only [Act.put, List.setIfInBounds_toArray, List.set_cons_zero, List.set_cons_succ]
              refine AnyT.takeD (i := 25) (d := some 48) (v := .slice (some ad) n cc) rfl rfl (by kernel_rfl) (by kernel_rfl) (by kernel_rfl) (by kernel_rfl) (fun _ _ _ h => h) (Or.inl ⟨by rfl, fun wz _ => by go_simp⟩) F0 ?_
              simp only [Act.put, List.setIfInBounds_toArray, List.set_cons_zero, List.set_cons_succ]
              refine AnyT.takeD (i := 26) (d := some 49) (v := .int .i64 (k : Int)) rfl rfl (by kernel_rfl) (by kernel_rfl) (by kernel_rfl) (by kernel_rfl) (fun _ _ _ h => h) (Or.inl ⟨by rfl, fun wz _ => by go_simp⟩) F0 ?_
              simp only [Act.put, List.setIfInBounds_toArray, List.set_cons_zero, List.set_cons_succ]
              refine AnyT.takeD (i := 27) (d := some 50) (v := .pointer (some (ad.add k))) rfl rfl (by kernel_rfl) (by kernel_rfl) (by kernel_rfl) (by kernel_rfl) (fun _ _ _ h => h) (Or.inl ⟨by rfl, fun wz _ => by go_simp⟩) F0 ?_
              simp only [Act.put, List.setIfInBounds_toArray, List.set_cons_zero, List.set_cons_succ]
              refine AnyT.takeD (i := 28) (d := some 51) (v := .int .i64 (X : Int)) rfl rfl (by kernel_rfl) (by kernel_rfl) (by kernel_rfl) (by kernel_rfl) (fun _ _ _ h => h) (Or.inl ⟨by rfl, fun wz hz => by obtain ⟨z0, z1, z2, z3⟩ := hz; go_simp⟩) F0 ?_
              simp only [Act.put, List.setIfInBounds_toArray, List.set_cons_zero, List.set_cons_succ]
              -- TAKEN N1
              refine AnyT.branch (rs := [29]) (by kernel_rfl) (by simp) ?_
              refine all_cons (?_) all_nil
              refine AnyT.enterG (i := 29) (d := some 52) (f := 27) (args := #[jv A L c wt, .int .i64 (q : Int), .int .i64 (X : Int)]) rfl (by rfl) rfl (by go_simp) (HR.out q0 (HI.out.below (BW.out.trans (K0.out.mono BW.out.size)))) ?_
              rintro e q1 ⟨rfl, hB1⟩
              have K1 := Lib.hid (K0.out.trans (hB1.mono K0.out.size))
              have F1 := HPS.out q1 K1.out
              refine ⟨_, rfl, fun _ => F1, ?_⟩
              clear hB1 F0
              simp only [Act.put, List.setIfInBounds_toArray, List.set_cons_zero, List.set_cons_succ]
              have BR1 := Lib.hid (BR.out.trans (K1.out.mono BR.out.size))
              have BW1 := Lib.hid (B2.out.trans (BR1.out.mono B2.out.size))
              by_cases hr0 : r = 0
              · have HF := Lib.hid (show boundE l wt cs = (0, 1) by
                  have hp := HP.out
                  rw [if_pos (by rw [← HRR.out]; exact hr0)] at hp
                  rw [HE.out, hp, if_neg (by decide)])
                subst hr0
-- TAKES N2
                refine AnyT.takeD (i := 30) (d := some 53) (v := .bool true) rfl rfl (by kernel_rfl) (by kernel_rfl) (by kernel_rfl) (by kernel_rfl) (fun _ _ _ h => h) (Or.inl ⟨by rfl, fun wz _ => by go_simp⟩) F1 ?_
                simp only [Act.put, List.setIfInBounds_toArray, List.set_cons_zero, List.set_cons_succ]
                refine AnyT.takeD (i := 31) (d := some 54) (v := .bool true) rfl rfl (by kernel_rfl) (by kernel_rfl) (by kernel_rfl) (by kernel_rfl) (fun _ _ _ h => h) (Or.inl ⟨by rfl, fun wz _ => by go_simp⟩) F1 ?_
                simp only [Act.put, List.setIfInBounds_toArray, List.set_cons_zero, List.set_cons_succ]
                refine AnyT.takeD (i := 32) (d := some 55) (v := .bool true) rfl rfl (by kernel_rfl) (by kernel_rfl) (by kernel_rfl) (by kernel_rfl) (fun _ _ _ h => h) (Or.inl ⟨by rfl, fun wz _ => by go_simp⟩) F1 ?_
                simp only [Act.put, List.setIfInBounds_toArray, List.set_cons_zero, List.set_cons_succ]
                -- TAKEN N2
                refine AnyT.done_ (by kernel_rfl) ?_ _
                clear F1 HPS HE0 K0 K1 HR
                go_wp2_with fail
                go_ret2
                exact ⟨ret_r2 HF.out, BW1.out⟩
              · have hrz : (r == 0) = false := beq_eq_false_iff_ne.2 hr0
                have HP2 := Lib.hid (show ∃ p, chB l none cs = chB l p (cs.drop (k + 1)) ∧ (k + 1 = 0 → p = none) ∧ (0 < k + 1 → ∃ q : Nat, p = some q ∧ q < L ∧ cs.getD (k + 1 - 1) 0 = (q : Int)) from by
                  have hp := HP.out
                  rw [if_neg (by rw [← HRR.out]; exact hr0)] at hp
                  exact ⟨_, hp, (fun h => by omega), fun _ => ⟨X, rfl, hX, HX.out.symm⟩⟩)
-- TAKES N3
                refine AnyT.takeD (i := 30) (d := some 53) (v := .bool false) rfl rfl (by kernel_rfl) (by kernel_rfl) (by kernel_rfl) (by kernel_rfl) (fun _ _ _ h => h) (Or.inl ⟨by rfl, fun wz _ => by go_simp⟩) F1 ?_
                simp only [Act.put, List.setIfInBounds_toArray, List.set_cons_zero, List.set_cons_succ]
                refine AnyT.takeD (i := 31) (d := some 54) (v := .bool false) rfl rfl (by kernel_rfl) (by kernel_rfl) (by kernel_rfl) (by kernel_rfl) (fun _ _ _ h => h) (Or.inl ⟨by rfl, fun wz _ => by go_simp⟩) F1 ?_
                simp only [Act.put, List.setIfInBounds_toArray, List.set_cons_zero, List.set_cons_succ]
                refine AnyT.takeD (i := 32) (d := some 55) (v := .bool false) rfl rfl (by kernel_rfl) (by kernel_rfl) (by kernel_rfl) (by kernel_rfl) (fun _ _ _ h => h) (Or.inl ⟨by rfl, fun wz _ => by go_simp⟩) F1 ?_
                simp only [Act.put, List.setIfInBounds_toArray, List.set_cons_zero, List.set_cons_succ]
                -- TAKEN N3
                refine AnyT.done_ (by kernel_rfl) ?_ _
                clear F1 HPS HE0 K0 K1 HR hrz hr0
                go_wp2_with fail
                go_roundw
                case rel => exact ⟨k + 1, by omega, by go_num, HP2, BR1⟩
                case measure => simp [intOf]; omega
          · obtain ⟨p, hp, _⟩ := P.out
            have HF := Lib.hid (show boundE l wt cs = (0, 1) by rw [HE.out, hp, HD.out, chB_bad (by rw [← HL.out]; omega), if_neg (by decide)])
            have hx2 : (L : Int) ≤ x := by omega
            clear hp
            have ltk := lt_of_cell ck
            have HPS := Lib.hid (fun (Y : World) (hY : Below wr.heap.size wr Y) => (show Y.cell? ⟨b, 0, none⟩ = some (.slice A L c) ∧ Y.cell? ⟨b, 1, none⟩ = some (.int .i64 wt) ∧ Y.cell? (ad.add k) = some (.int .i64 x) from
              ⟨(hY.cell (p := ⟨b, 0, none⟩) jl).trans j0, (hY.cell (p := ⟨b, 1, none⟩) jl).trans j1, (hY.cell ltk).trans ck⟩))
            clear ltk
            go_upto_region 7 with fail
            clear ck j0 j1
            obtain ⟨q0, e0⟩ : ∃ x, x = wr.drew := ⟨_, rfl⟩
            have K0 := Lib.hid (show Below wr.heap.size wr q0 from by rw [e0]; exact (Below.refl _ _).drew)
            have F0 := HPS.out q0 K0.out
            have HE0 := Lib.hid e0
            clear e0
            refine AnyT.begin_at tlN (fun Y => Y.cell? ⟨b, 0, none⟩ = some (.slice A L c) ∧ Y.cell? ⟨b, 1, none⟩ = some (.int .i64 wt) ∧ Y.cell? (ad.add k) = some (.int .i64 x)) (by kernel_rfl) HE0.out F0 ?_
            clear F0
            intro F0
-- TAKES NB
            refine AnyT.takeD (i := 0) (d := some 23) (v := .slice (some ad) n cc) rfl rfl (by kernel_rfl) (by kernel_rfl) (by kernel_rfl) (by kernel_rfl) (fun _ _ _ h => h) (Or.inl ⟨by rfl, fun wz _ => by go_simp⟩) F0 ?_
            simp only [Act.put, List.setIfInBounds_toArray, List.set_cons_zero, List.set_cons_succ]
            refine AnyT.takeD (i := 1) (d := some 24) (v := .int .i64 (k : Int)) rfl rfl (by kernel_rfl) (by kernel_rfl) (by kernel_rfl) (by kernel_rfl) (fun _ _ _ h => h) (Or.inl ⟨by rfl, fun wz _ => by go_simp⟩) F0 ?_
            simp only [Act.put, List.setIfInBounds_toArray, List.set_cons_zero, List.set_cons_succ]
            refine AnyT.takeD (i := 2) (d := some 25) (v := .pointer (some (ad.add k))) rfl rfl (by kernel_rfl) (by kernel_rfl) (by kernel_rfl) (by kernel_rfl) (fun _ _ _ h => h) (Or.inl ⟨by rfl, fun wz _ => by go_simp⟩) F0 ?_
            simp only [Act.put, List.setIfInBounds_toArray, List.set_cons_zero, List.set_cons_succ]
            refine AnyT.takeD (i := 3) (d := some 26) (v := .int .i64 x) rfl rfl (by kernel_rfl) (by kernel_rfl) (by kernel_rfl) (by kernel_rfl) (fun _ _ _ h => h) (Or.inl ⟨by rfl, fun wz hz => by obtain ⟨z0, z1, z2⟩ := hz; go_simp⟩) F0 ?_
            simp only [Act.put, List.setIfInBounds_toArray, List.set_cons_zero, List.set_cons_succ]
            refine AnyT.takeD (i := 4) (d := some 27) (v := .bool false) rfl rfl (by kernel_rfl) (by kernel_rfl) (by kernel_rfl) (by kernel_rfl) (fun _ _ _ h => h) (Or.inl ⟨by rfl, fun wz _ => by go_simp⟩) F0 ?_
            simp only [Act.put, List.setIfInBounds_toArray, List.set_cons_zero, List.set_cons_succ]
            refine AnyT.takeD (i := 5) (d := some 28) (v := .bool false) rfl rfl (by kernel_rfl) (by kernel_rfl) (by kernel_rfl) (by kernel_rfl) (fun _ _ _ h => h) (Or.inl ⟨by rfl, fun wz _ => by go_simp⟩) F0 ?_
            simp only [Act.put, List.setIfInBounds_toArray, List.set_cons_zero, List.set_cons_succ]
            refine AnyT.takeD (i := 6) (d := some 29) (v := .slice (some ad) n cc) rfl rfl (by kernel_rfl) (by kernel_rfl) (by kernel_rfl) (by kernel_rfl) (fun _ _ _ h => h) (Or.inl ⟨by rfl, fun wz _ => by go_simp⟩) F0 ?_
            simp only [Act.put, List.setIfInBounds_toArray, List.set_cons_zero, List.set_cons_succ]
            refine AnyT.takeD (i := 7) (d := some 30) (v := .int .i64 (k : Int)) rfl rfl (by kernel_rfl) (by kernel_rfl) (by kernel_rfl) (by kernel_rfl) (fun _ _ _ h => h) (Or.inl ⟨by rfl, fun wz _ => by go_simp⟩) F0 ?_
            simp only [Act.put, List.setIfInBounds_toArray, List.set_cons_zero, List.set_cons_succ]
            refine AnyT.takeD (i := 8) (d := some 31) (v := .pointer (some (ad.add k))) rfl rfl (by kernel_rfl) (by kernel_rfl) (by kernel_rfl) (by kernel_rfl) (fun _ _ _ h => h) (Or.inl ⟨by rfl, fun wz _ => by go_simp⟩) F0 ?_
            simp only [Act.put, List.setIfInBounds_toArray, List.set_cons_zero, List.set_cons_succ]
            refine AnyT.takeD (i := 9) (d := some 32) (v := .int .i64 x) rfl rfl (by kernel_rfl) (by kernel_rfl) (by kernel_rfl) (by kernel_rfl) (fun _ _ _ h => h) (Or.inl ⟨by rfl, fun wz hz => by obtain ⟨z0, z1, z2⟩ := hz; go_simp⟩) F0 ?_
            simp only [Act.put, List.setIfInBounds_toArray, List.set_cons_zero, List.set_cons_succ]
            refine AnyT.takeD (i := 10) (d := some 33) (v := .pointer (some ⟨b, 0, none⟩)) rfl rfl (by kernel_rfl) (by kernel_rfl) (by kernel_rfl) (by kernel_rfl) (fun _ _ _ h => h) (Or.inl ⟨by rfl, fun wz _ => by go_simp⟩) F0 ?_
            simp only [Act.put, List.setIfInBounds_toArray, List.set_cons_zero, List.set_cons_succ]
            refine AnyT.takeD (i := 11) (d := some 34) (v := .slice A L c) rfl rfl (by kernel_rfl) (by kernel_rfl) (by kernel_rfl) (by kernel_rfl) (fun _ _ _ h => h) (Or.inl ⟨by rfl, fun wz hz => by obtain ⟨z0, z1, z2⟩ := hz; go_simp⟩) F0 ?_
            simp only [Act.put, List.setIfInBounds_toArray, List.set_cons_zero, List.set_cons_succ]
            refine AnyT.takeD (i := 12) (d := some 35) (v := .int .i64 (L : Int)) rfl rfl (by kernel_rfl) (by kernel_rfl) (by kernel_rfl) (by kernel_rfl) (fun _ _ _ h => h) (Or.inl ⟨by rfl, fun wz _ => by go_simp⟩) F0 ?_
            simp only [Act.put, List.setIfInBounds_toArray, List.set_cons_zero, List.set_cons_succ]
            refine AnyT.takeD (i := 13) (d := some 36) (v := .bool true) rfl rfl (by kernel_rfl) (by kernel_rfl) (by kernel_rfl) (by kernel_rfl) (fun _ _ _ h => h) (Or.inl ⟨by rfl, fun wz _ => by go_simp⟩) F0 ?_
            simp only [Act.put, List.setIfInBounds_toArray, List.set_cons_zero, List.set_cons_succ]
            refine AnyT.takeD (i := 14) (d := some 37) (v := .bool true) rfl rfl (by kernel_rfl) (by kernel_rfl) (by kernel_rfl) (by kernel_rfl) (fun _ _ _ h => h) (Or.inl ⟨by rfl, fun wz _ => by go_simp⟩) F0 ?_
            simp only [Act.put, List.setIfInBounds_toArray, List.set_cons_zero, List.set_cons_succ]
            refine AnyT.takeD (i := 15) (d := some 38) (v := .bool true) rfl rfl (by kernel_rfl) (by kernel_rfl) (by kernel_rfl) (by kernel_rfl) (fun _ _ _ h => h) (Or.inl ⟨by rfl, fun wz _ => by go_simp⟩) F0 ?_
            simp only [Act.put, List.setIfInBounds_toArray, List.set_cons_zero, List.set_cons_succ]
            refine AnyT.takeD (i := 16) (d := some 39) (v := undef) rfl rfl (by kernel_rfl) (by kernel_rfl) (by kernel_rfl) (by kernel_rfl) (fun _ _ _ h => h) (Or.inr ⟨by rfl, rfl⟩) F0 ?_
            simp only [Act.put, List.setIfInBounds_toArray, List.set_cons_zero, List.set_cons_succ]
            refine AnyT.takeD (i := 17) (d := some 40) (v := undef) rfl rfl (by kernel_rfl) (by kernel_rfl) (by kernel_rfl) (by kernel_rfl) (fun _ _ _ h => h) (Or.inr ⟨by rfl, rfl⟩) F0 ?_
            simp only [Act.put, List.setIfInBounds_toArray, List.set_cons_zero, List.set_cons_succ]
            refine AnyT.takeD (i := 18) (d := some 41) (v := undef) rfl rfl (by kernel_rfl) (by kernel_rfl) (by kernel_rfl) (by kernel_rfl) (fun _ _ _ h => h) (Or.inr ⟨by rfl, rfl⟩) F0 ?_
            simp only [Act.put, List.setIfInBounds_toArray, List.set_cons_zero, List.set_cons_succ]
            refine AnyT.takeD (i := 19) (d := some 42) (v := undef) rfl rfl (by kernel_rfl) (by kernel_rfl) (by kernel_rfl) (by kernel_rfl) (fun _ _ _ h => h) (Or.inr ⟨by rfl, rfl⟩) F0 ?_
            simp only [Act.put, List.setIfInBounds_toArray, List.set_cons_zero, List.set_cons_succ]
            refine AnyT.takeD (i := 20) (d := some 43) (v := undef) rfl rfl (by kernel_rfl) (by kernel_rfl) (by kernel_rfl) (by kernel_rfl) (fun _ _ _ h => h) (Or.inr ⟨by rfl, rfl⟩) F0 ?_
            simp only [Act.put, List.setIfInBounds_toArray, List.set_cons_zero, List.set_cons_succ]
            refine AnyT.takeD (i := 21) (d := some 44) (v := undef) rfl rfl (by kernel_rfl) (by kernel_rfl) (by kernel_rfl) (by kernel_rfl) (fun _ _ _ h => h) (Or.inr ⟨by rfl, rfl⟩) F0 ?_
            simp only [Act.put, List.setIfInBounds_toArray, List.set_cons_zero, List.set_cons_succ]
            refine AnyT.takeD (i := 22) (d := some 45) (v := undef) rfl rfl (by kernel_rfl) (by kernel_rfl) (by kernel_rfl) (by kernel_rfl) (fun _ _ _ h => h) (Or.inr ⟨by rfl, rfl⟩) F0 ?_
            simp only [Act.put, List.setIfInBounds_toArray, List.set_cons_zero, List.set_cons_succ]
            refine AnyT.takeD (i := 23) (d := some 46) (v := undef) rfl rfl (by kernel_rfl) (by kernel_rfl) (by kernel_rfl) (by kernel_rfl) (fun _ _ _ h => h) (Or.inr ⟨by rfl, rfl⟩) F0 ?_
            simp only [Act.put, List.setIfInBounds_toArray, List.set_cons_zero, List.set_cons_succ]
            refine AnyT.takeD (i := 24) (d := some 47) (v := undef) rfl rfl (by kernel_rfl) (by kernel_rfl) (by kernel_rfl) (by kernel_rfl) (fun _ _ _ h => h) (Or.inr ⟨by rfl, rfl⟩) F0 ?_
            simp only [Act.put, List.setIfInBounds_toArray, List.set_cons_zero, List.set_cons_succ]
            refine AnyT.takeD (i := 25) (d := some 48) (v := undef) rfl rfl (by kernel_rfl) (by kernel_rfl) (by kernel_rfl) (by kernel_rfl) (fun _ _ _ h => h) (Or.inr ⟨by rfl, rfl⟩) F0 ?_
            simp only [Act.put, List.setIfInBounds_toArray, List.set_cons_zero, List.set_cons_succ]
            refine AnyT.takeD (i := 26) (d := some 49) (v := undef) rfl rfl (by kernel_rfl) (by kernel_rfl) (by kernel_rfl) (by kernel_rfl) (fun _ _ _ h => h) (Or.inr ⟨by rfl, rfl⟩) F0 ?_
            simp only [Act.put, List.setIfInBounds_toArray, List.set_cons_zero, List.set_cons_succ]
            refine AnyT.takeD (i := 27) (d := some 50) (v := undef) rfl rfl (by kernel_rfl) (by kernel_rfl) (by kernel_rfl) (by kernel_rfl) (fun _ _ _ h => h) (Or.inr ⟨by rfl, rfl⟩) F0 ?_
            simp only [Act.put, List.setIfInBounds_toArray, List.set_cons_zero, List.set_cons_succ]
            refine AnyT.takeD (i := 28) (d := some 51) (v := undef) rfl rfl (by kernel_rfl) (by kernel_rfl) (by kernel_rfl) (by kernel_rfl) (fun _ _ _ h => h) (Or.inr ⟨by rfl, rfl⟩) F0 ?_
            simp only [Act.put, List.setIfInBounds_toArray, List.set_cons_zero, List.set_cons_succ]
            refine AnyT.takeD (i := 29) (d := some 52) (v := undef) rfl rfl (by kernel_rfl) (by kernel_rfl) (by kernel_rfl) (by kernel_rfl) (fun _ _ _ h => h) (Or.inr ⟨by rfl, rfl⟩) F0 ?_
            simp only [Act.put, List.setIfInBounds_toArray, List.set_cons_zero, List.set_cons_succ]
            refine AnyT.takeD (i := 30) (d := some 53) (v := undef) rfl rfl (by kernel_rfl) (by kernel_rfl) (by kernel_rfl) (by kernel_rfl) (fun _ _ _ h => h) (Or.inr ⟨by rfl, rfl⟩) F0 ?_
            simp only [Act.put, List.setIfInBounds_toArray, List.set_cons_zero, List.set_cons_succ]
            refine AnyT.takeD (i := 31) (d := some 54) (v := undef) rfl rfl (by kernel_rfl) (by kernel_rfl) (by kernel_rfl) (by kernel_rfl) (fun _ _ _ h => h) (Or.inr ⟨by rfl, rfl⟩) F0 ?_
            simp only [Act.put, List.setIfInBounds_toArray, List.set_cons_zero, List.set_cons_succ]
            refine AnyT.takeD (i := 32) (d := some 55) (v := .bool true) rfl rfl (by kernel_rfl) (by kernel_rfl) (by kernel_rfl) (by kernel_rfl) (fun _ _ _ h => h) (Or.inl ⟨by rfl, fun wz _ => by go_simp⟩) F0 ?_
            simp only [Act.put, List.setIfInBounds_toArray, List.set_cons_zero, List.set_cons_succ]
            -- TAKEN NB
            refine AnyT.done_ (by kernel_rfl) ?_ _
            have BR1 := Lib.hid (BR.out.trans (K0.out.mono BR.out.size))
            have BW1 := Lib.hid (B2.out.trans (BR1.out.mono B2.out.size))
            clear F0 HPS HE0 K0
            go_wp2_with fail
            go_ret2
            exact ⟨ret_r2 HF.out, BW1.out⟩
      · have hkn : k = n := by omega
        subst hkn
        obtain ⟨p, hp, _⟩ := P.out
        have hch : chB l none cs = true := by rw [hp, HN.out, List.drop_length]; cases p <;> rfl
        obtain ⟨d, hd, hcd⟩ := chB_iff.1 hch
        have HE2 := Lib.hid (show boundE l wt cs = bnd l wt none 0 d by rw [HE.out, if_pos hch, hd, map_toZ])
        have HD := Lib.hid hd
        have HAT := Lib.hid (chn_at hcd)
        have HF := Lib.hid (formOk_of HV.out)
        have hnd : k = d.length := by rw [HN.out, hd, toZ_len]
        have HND := Lib.hid hnd
        have J3 := Lib.hid (J2.out.below BR.out J2.out.lt)
        clear hp P HE hd hcd hnd hch hlt J2 B2 BR
        obtain ⟨n, hnn⟩ : ∃ m, m = k := ⟨_, rfl⟩
        have HNN := Lib.hid hnn
        have HNL := Lib.hid (show n = cs.length by rw [hnn]; exact HN.out)
        have HNDL := Lib.hid (show n = d.length by rw [hnn]; exact HND.out)
        rw [← hnn] at hm' hk ⊢
        obtain ⟨w3, hw3⟩ : ∃ W, W = wr := ⟨_, rfl⟩
        have B3 := Lib.hid (show Below w.heap.size w w3 by rw [hw3]; exact BW.out)
        have J4 := Lib.hid (show JBox w3 b A L c wt by rw [hw3]; exact J3.out)
        rw [← hw3] at *
        clear hnn BW J3 HN HND HNN hw3
        go_wp2_with fail
        go_loopw [8, 9] (fun mv iv wr => ∃ (k : Nat) (m : Int), k ≤ n ∧ iv = .int .i64 (k : Int) ∧ mv = .int .i64 m ∧ (0 ≤ m ∧ m ≤ 4095) ∧ Hid ((k = 0 → m = 0) ∧ boundE l wt cs = bnd l wt (prv d k) m (d.drop k)) ∧ Hid (Below w3.heap.size w3 wr)) (fun _ iv _ => n - (intOf iv).toNat)
        case atStart => exact ⟨0, 0, by omega, rfl, rfl, by omega, Lib.hid ⟨fun _ => rfl, HE2.out⟩, Lib.hid (Below.refl _ _)⟩
        case round =>
          obtain ⟨k, m, hk, rfl, rfl, hmb, P, BR⟩ := hrel
          have BW := Lib.hid (B3.out.trans (BR.out.mono B3.out.size))
          by_cases hlt : k < n
          · obtain ⟨ad, rfl, _, ck⟩ := (HC.out.below BW.out) k (by rw [← HNL.out]; exact hlt)
            obtain ⟨at1, at2⟩ := HAT.out k (by rw [← HNDL.out]; exact hlt)
            have HA2 := Lib.hid at2
            obtain ⟨Y, hY⟩ : ∃ x, x = d.getD k 0 := ⟨_, rfl⟩
            have HYY := Lib.hid hY
            rw [HD.out, toZ_at _ (by rw [← HNDL.out]; exact hlt), ← hY] at ck
            rw [← hY] at at1
            have hYL : Y < L := by rw [HL.out]; exact at1
            have hYi : (Y : Int) < (L : Int) := by omega
            have hki : (k : Int) < (n : Int) := by omega
            obtain ⟨M', hM'⟩ : ∃ M', M' = if k = 0 then 0 else vk (rel l (d.getD (k - 1) 0) (d.getD k 0)) m := ⟨_, rfl⟩
            have HST := Lib.hid (bnd_step (l := l) (wt := wt) (d := d) (k := k) (m := m) (by rw [← HNDL.out]; exact hlt) P.out.1 hM' HA2.out)
            rw [← hY] at HST
            have hMb : 0 ≤ M' ∧ M' ≤ 4096 := by
              rw [hM']
              split
              · omega
              · have := vk_bd (r := rel l (d.getD (k - 1) 0) (d.getD k 0)) hmb.1; omega
            have HEQ := Lib.hid P.out.2
            have HK0 := Lib.hid P.out.1
            have HMM := Lib.hid hM'
            clear at1 at2 hY hM' P
            obtain ⟨j0, j1, jl⟩ := (J4.out.below BR.out J4.out.lt)
            go_upto_if 63 with fail
            obtain ⟨cb, hcb⟩ : ∃ cb, cb = decide (0 < k) := ⟨_, rfl⟩
            have hcb2 : decide ((0 : Int) < (k : Int)) = cb := by rw [hcb]; simp
            simp only [hcb2, ← hcb]
            clear hcb2
            go_cut [8] from 64 to 76 (fun mv wx => mv = .int .i64 M' ∧ Hid (Below w3.heap.size w3 wx))
            case first =>
              by_cases hk0 : k = 0
              · have hm0 := HMM.out
                rw [if_pos hk0] at hm0
                have hm1 := HK0.out hk0
                have hkz : ¬ 0 < k := by omega
                have hkzi : ¬ (0 : Int) < (k : Int) := by omega
                have hcf : cb = false := by rw [hcb]; simp [hk0]
                subst hcf
                subst hm0
                subst hm1
                clear HK0 HMM HST HEQ hk0 hcb
                go_wp2_with fail
                go_meet
                case rel => exact ⟨rfl, BR⟩
              · have hm0 := HMM.out
                have hrn := HA2.out (by omega)
                rw [if_neg hk0, vk_str hrn, ← HYY.out] at hm0
                obtain ⟨k1, hk1⟩ : ∃ k1, k1 = k - 1 := ⟨_, rfl⟩
                rw [← hk1] at hm0
                obtain ⟨ad', e', _, cq⟩ := (HC.out.below BW.out) k1 (by rw [← HNL.out]; omega)
                obtain rfl : ad = ad' := by injection e'
                rw [HD.out, toZ_at _ (by rw [← HNDL.out]; omega)] at cq
                obtain ⟨hX1, -⟩ := HAT.out k1 (by rw [← HNDL.out]; omega)
                obtain ⟨X, hX⟩ : ∃ x, x = d.getD k1 0 := ⟨_, rfl⟩
                rw [← hX] at cq hm0 hX1
                have HSB := Lib.hid (fun (W : World) (kb : Below wr.heap.size wr W) => HSI.out X Y (by rw [HL.out]; exact hX1) hYL W (HI.out.below (BW.out.trans (kb.mono BW.out.size))))
                have hsb : 0 ≤ str1 l X Y ∧ str1 l X Y ≤ 1 := by unfold str1; split <;> omega
                obtain ⟨s1, hs1⟩ : ∃ s, s = str1 l X Y := ⟨_, rfl⟩
                rw [← hs1] at HSB hm0 hsb
                have ltq := lt_of_cell cq
                have ltk := lt_of_cell ck
                have HPS := Lib.hid (fun (Z : World) (hZ : Below wr.heap.size wr Z) => (show Z.cell? ⟨b, 0, none⟩ = some (.slice A L c) ∧ Z.cell? ⟨b, 1, none⟩ = some (.int .i64 wt) ∧ Z.cell? (ad.add k1) = some (.int .i64 (X : Int)) ∧ Z.cell? (ad.add k) = some (.int .i64 (Y : Int)) from
                  ⟨(hZ.cell (p := ⟨b, 0, none⟩) jl).trans j0, (hZ.cell (p := ⟨b, 1, none⟩) jl).trans j1, (hZ.cell ltq).trans cq, (hZ.cell ltk).trans ck⟩))
                have hkp : 0 < k := by omega
                have hki0 : (0 : Int) < (k : Int) := by omega
                have hk1e : (k : Int) - 1 = (k1 : Int) := by omega
                have hk1n : (k1 : Int) < (n : Int) := by omega
                have hwk : IntKind.i64.wrap (k1 : Int) = (k1 : Int) := IntWalk.i64_in _ (by omega)
                have hwr : IntKind.i64.wrap (m + s1) = m + s1 := IntWalk.i64_in _ (by omega)
                have hct : cb = true := by rw [hcb]; simp; omega
                subst hct
                subst hm0
                clear e' hX hX1 ltq ltk cq HK0 HMM HST HEQ hk0 hk1 hs1 hrn hcb
                go_upto_region 14 with fail
                clear ck j0 j1
                obtain ⟨q0, e0⟩ : ∃ x, x = wr.drew := ⟨_, rfl⟩
                have K0 := Lib.hid (show Below wr.heap.size wr q0 from by rw [e0]; exact (Below.refl _ _).drew)
                have F0 := HPS.out q0 K0.out
                have HE0 := Lib.hid e0
                clear e0
                refine AnyT.begin_at tlN (fun Z => Z.cell? ⟨b, 0, none⟩ = some (.slice A L c) ∧ Z.cell? ⟨b, 1, none⟩ = some (.int .i64 wt) ∧ Z.cell? (ad.add k1) = some (.int .i64 (X : Int)) ∧ Z.cell? (ad.add k) = some (.int .i64 (Y : Int))) (by kernel_rfl) HE0.out F0 ?_
                clear F0
                intro F0
-- TAKES Q1
                refine AnyT.takeD (i := 0) (d := some 64) (v := .int .i64 m) rfl rfl (by kernel_rfl) (by kernel_rfl) (by kernel_rfl) (by kernel_rfl) (fun _ _ _ h => h) (Or.inl ⟨by rfl, fun wz _ => by go_simp⟩) F0 ?_
                simp only [Act.put, List.setIfInBounds_toArray, List.set_cons_zero, List.set_cons_succ]
                refine AnyT.takeD (i := 1) (d := some 65) (v := jv A L c wt) rfl rfl (by kernel_rfl) (by kernel_rfl) (by kernel_rfl) (by kernel_rfl) (fun _ _ _ h => h) (Or.inl ⟨by rfl, fun wz hz => by obtain ⟨z0, z1, z2, z3⟩ := hz; go_simp⟩) F0 ?_
                simp only [Act.put, List.setIfInBounds_toArray, List.set_cons_zero, List.set_cons_succ]
                refine AnyT.takeD (i := 2) (d := some 66) (v := .slice (some ad) n cc) rfl rfl (by kernel_rfl) (by kernel_rfl) (by kernel_rfl) (by kernel_rfl) (fun _ _ _ h => h) (Or.inl ⟨by rfl, fun wz _ => by go_simp⟩) F0 ?_
                simp only [Act.put, List.setIfInBounds_toArray, List.set_cons_zero, List.set_cons_succ]
                refine AnyT.takeD (i := 3) (d := some 67) (v := .int .i64 (k : Int)) rfl rfl (by kernel_rfl) (by kernel_rfl) (by kernel_rfl) (by kernel_rfl) (fun _ _ _ h => h) (Or.inl ⟨by rfl, fun wz _ => by go_simp⟩) F0 ?_
                simp only [Act.put, List.setIfInBounds_toArray, List.set_cons_zero, List.set_cons_succ]
                refine AnyT.takeD (i := 4) (d := some 68) (v := .int .i64 (k1 : Int)) rfl rfl (by kernel_rfl) (by kernel_rfl) (by kernel_rfl) (by kernel_rfl) (fun _ _ _ h => h) (Or.inl ⟨by rfl, fun wz _ => by go_simp⟩) F0 ?_
                simp only [Act.put, List.setIfInBounds_toArray, List.set_cons_zero, List.set_cons_succ]
                refine AnyT.takeD (i := 5) (d := some 69) (v := .pointer (some (ad.add k1))) rfl rfl (by kernel_rfl) (by kernel_rfl) (by kernel_rfl) (by kernel_rfl) (fun _ _ _ h => h) (Or.inl ⟨by rfl, fun wz _ => by go_simp⟩) F0 ?_
                simp only [Act.put, List.setIfInBounds_toArray, List.set_cons_zero, List.set_cons_succ]
                refine AnyT.takeD (i := 6) (d := some 70) (v := .int .i64 (X : Int)) rfl rfl (by kernel_rfl) (by kernel_rfl) (by kernel_rfl) (by kernel_rfl) (fun _ _ _ h => h) (Or.inl ⟨by rfl, fun wz hz => by obtain ⟨z0, z1, z2, z3⟩ := hz; go_simp⟩) F0 ?_
                simp only [Act.put, List.setIfInBounds_toArray, List.set_cons_zero, List.set_cons_succ]
                refine AnyT.takeD (i := 7) (d := some 71) (v := .slice (some ad) n cc) rfl rfl (by kernel_rfl) (by kernel_rfl) (by kernel_rfl) (by kernel_rfl) (fun _ _ _ h => h) (Or.inl ⟨by rfl, fun wz _ => by go_simp⟩) F0 ?_
                simp only [Act.put, List.setIfInBounds_toArray, List.set_cons_zero, List.set_cons_succ]
                refine AnyT.takeD (i := 8) (d := some 72) (v := .int .i64 (k : Int)) rfl rfl (by kernel_rfl) (by kernel_rfl) (by kernel_rfl) (by kernel_rfl) (fun _ _ _ h => h) (Or.inl ⟨by rfl, fun wz _ => by go_simp⟩) F0 ?_
                simp only [Act.put, List.setIfInBounds_toArray, List.set_cons_zero, List.set_cons_succ]
                refine AnyT.takeD (i := 9) (d := some 73) (v := .pointer (some (ad.add k))) rfl rfl (by kernel_rfl) (by kernel_rfl) (by kernel_rfl) (by kernel_rfl) (fun _ _ _ h => h) (Or.inl ⟨by rfl, fun wz _ => by go_simp⟩) F0 ?_
                simp only [Act.put, List.setIfInBounds_toArray, List.set_cons_zero, List.set_cons_succ]
                refine AnyT.takeD (i := 10) (d := some 74) (v := .int .i64 (Y : Int)) rfl rfl (by kernel_rfl) (by kernel_rfl) (by kernel_rfl) (by kernel_rfl) (fun _ _ _ h => h) (Or.inl ⟨by rfl, fun wz hz => by obtain ⟨z0, z1, z2, z3⟩ := hz; go_simp⟩) F0 ?_
                simp only [Act.put, List.setIfInBounds_toArray, List.set_cons_zero, List.set_cons_succ]
                -- TAKEN Q1
                refine AnyT.branch (rs := [11]) (by kernel_rfl) (by simp) ?_
                refine all_cons (?_) all_nil
                refine AnyT.enter (i := 11) (d := some 75) (f := 28) (args := #[jv A L c wt, .int .i64 (X : Int), .int .i64 (Y : Int)]) rfl rfl rfl (by go_simp) (HSB.out q0 K0.out) ?_
                rintro e q1 ⟨rfl, hB1⟩
                have K1 := Lib.hid (K0.out.trans (hB1.mono K0.out.size))
                have F1 := HPS.out q1 K1.out
                refine ⟨_, rfl, fun _ => F1, ?_⟩
                clear hB1 F0
                simp only [Act.put, List.setIfInBounds_toArray, List.set_cons_zero, List.set_cons_succ]
-- TAKES Q2
                refine AnyT.takeD (i := 12) (d := some 76) (v := .int .i64 (m + s1)) rfl rfl (by kernel_rfl) (by kernel_rfl) (by kernel_rfl) (by kernel_rfl) (fun _ _ _ h => h) (Or.inl ⟨by rfl, fun wz _ => by go_simp⟩) F1 ?_
                simp only [Act.put, List.setIfInBounds_toArray, List.set_cons_zero, List.set_cons_succ]
                refine AnyT.takeD (i := 13) (d := some 8) (v := .int .i64 (m + s1)) rfl rfl (by kernel_rfl) (by kernel_rfl) (by kernel_rfl) (by kernel_rfl) (fun _ _ _ h => h) (Or.inl ⟨by rfl, fun wz _ => by go_simp⟩) F1 ?_
                simp only [Act.put, List.setIfInBounds_toArray, List.set_cons_zero, List.set_cons_succ]
                -- TAKEN Q2
                refine AnyT.done_ (by kernel_rfl) ?_ _
                have BR1 := Lib.hid (BR.out.trans (K1.out.mono BR.out.size))
                clear F1 HPS HE0 K0 K1 HSB hwr
                go_wp2_with fail
                go_meet
                case rel => exact ⟨rfl, BR1⟩
            case rest =>
              clear ck j0 j1 jl BW BR HMM hcb
              obtain ⟨rfl, BR⟩ := hcut
              have BW := Lib.hid (B3.out.trans (BR.out.mono B3.out.size))
              obtain ⟨j0, j1, jl⟩ := (J4.out.below BR.out J4.out.lt)
              obtain ⟨aA, rfl, CE⟩ := (HI.out.below BW.out).at_ Y (by rw [← HL.out]; exact hYL)
              obtain ⟨-, -, r2, -⟩ := CE.spelt
              replace r2 : wc.cell? ⟨(aA.add (Y * 4)).block, (aA.add (Y * 4)).off + 2, none⟩ = some (.int .i64 (rnd l Y)) := r2
              obtain ⟨ad', e', _, ck⟩ := (HC.out.below BW.out) k (by rw [← HNL.out]; exact hlt)
              obtain rfl : ad = ad' := by injection e'
              rw [HD.out, toZ_at _ (by rw [← HNDL.out]; exact hlt), ← HYY.out] at ck
              have NR := Lib.hid (fun W => rnext_any M' (rnd l Y) wt W (by omega))
              have HNX := Lib.hid (fun (kk : Int) => next_bd (n := M') (r := rnd l Y) (wt := wt) (k := kk) hMb.1 (HF.out.rb Y (by rw [← HL.out]; exact hYL)) HF.out.wb)
              obtain ⟨⟨kk, er⟩, hnz⟩ : ∃ t, t = nextZ M' (rnd l Y) wt := ⟨_, rfl⟩
              have HNZ := Lib.hid hnz
              rw [← hnz] at NR HNX
              have hst := HST.out
              rw [← hnz] at hst
              have HST := Lib.hid hst
              clear hnz hst CE e'
              go_wp2_with fail
              go_quiet ((go_at_call 29; exact Calls.quiet_of (NR.out _)))
              clear j0 j1 jl r2 ck
              by_cases hez : er = 0
              · subst hez
                have hbd := HNX.out kk rfl
                have HP2 := Lib.hid (show (k + 1 = 0 → kk = 0) ∧ boundE l wt cs = bnd l wt (prv d (k + 1)) kk (d.drop (k + 1)) from ⟨fun h => by omega, by rw [HEQ.out, HST.out, if_pos rfl]⟩)
                clear HST HNX NR HNZ
                go_wp2_with fail
                go_roundw
                case rel => exact ⟨k + 1, kk, by omega, by go_num, rfl, by omega, HP2, Lib.hid (bdn BR.out)⟩
                case measure => simp [intOf]; omega
              · have HEE := Lib.hid (show boundE l wt cs = (0, er) by rw [HEQ.out, HST.out, if_neg hez])
                have hne : (er != 0) = true := bne_iff_ne.2 hez
                clear HST HNX NR HNZ hez
                go_wp2_with fail
                go_ret2
                exact ⟨ret_r2 HEE.out, bdn BW.out⟩
          · have hkn : k = n := by omega
            have HEE := Lib.hid (show boundE l wt cs = (m, 0) by rw [P.out.2, hkn, HNDL.out, List.drop_length, bnd_nil])
            have hki : ¬ (k : Int) < (n : Int) := by omega
            clear P
            go_wp2_with fail
            go_ret2
            exact ⟨ret_r2 HEE.out, BW.out⟩
  · have hE := HE.out
    rw [if_pos he] at hE
    have HEE := Lib.hid hE
    have hne : (validR l wt != 0) = true := bne_iff_ne.2 he
    clear he hE HE
    go_wp2_with fail
    go_ret2
    exact ⟨ret_r2 HEE.out, B2.out⟩
end Go.Proofs.Ytcplanafcnnodaa
