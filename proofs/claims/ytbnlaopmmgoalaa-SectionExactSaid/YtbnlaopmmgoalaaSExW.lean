/-
  Stage 5: the walk of SectionExact.
-/
import Derived.Test.YtbnlaopmmgoalaaSExa
import Derived.Test.YtbnlaopmmgoalaaSRegT
set_option linter.unusedSimpArgs false
set_option linter.unusedVariables false
namespace Go.Proofs.Ytbnlaopmmgoalaa
open Go.RowKit

/-- What the outer loop carries: the maker, old memory. -/
structure XSt (w wr : World) (N : Nat) : Prop where
  mkr : IsMk wr w.heap.size N
  bel : Below w.heap.size w wr
/-- The numbers of the region's last stores, and all that is pure. -/
def tl8 (j : Nat) : Bool := !(j == 7 || j == 15 || j == 23 || j == 8 || j == 16 || j == 24 || j == 9 || j == 17 || j == 25 || j == 26 || j == 27)
def tl12 (j : Nat) : Bool := !(j == 4 || j == 7 || j == 9 || j == 10 || j == 11)
/-- What the literal's region leaves. -/
def Fin8 (m g L c base base2 : Nat) (v2 : Value) (p : List Pul) (w0 : World) (M : Nat) (wx : World) : Prop := ∃ (l : List Pul) (N : Nat), l.length = L ∧ N ≤ M ∧ RSt 24 40 m g L c base base2 v2 p w0 l wx N
theorem fin8 {m g L c base base2 N M : Nat} {v2 : Value} {p l : List Pul} {w0 q : World} (h : RSt 24 40 m g L c base base2 v2 p w0 l q N) (hL : L = l.length) (hN : N ≤ M) (k : Nat) (d t s : Int) :
    Fin8 m g L c base base2 v2 p w0 M (((q.setCell ⟨g, k * 3, none⟩ (.int .i64 d)).setCell ⟨g, k * 3 + 1, none⟩ (.int .i64 t)).setCell ⟨g, k * 3 + 2, none⟩ (.int .i64 s)) :=
  ⟨_, N, by rw [List.length_set]; exact hL.symm, hN, h.set3 hL k d t s⟩

set_option maxRecDepth 100000 in
set_option maxHeartbeats 30000000 in
theorem ex_walk (t : Option Addr) (len cap : Nat) (zs : List Int) (l0 p0 : List Pul) (A1 A2 : Option Addr) (c1 c2 : Nat) (s r : Int) (w : World) (h : IsRow .i64 w t len cap zs) (h1 : PRow w A1 l0) (h2 : PRow w A2 p0) :
    Calls Try.prog 4 #[.slice t len cap, .slice A1 l0.length c1, .slice A2 p0.length c2, .int .i64 s, .int .i64 r] w fun e w' => e = .returned (.bool true) ∧ Below w.heap.size w w' := by
  obtain ⟨i0, hi, hz0, hz1, hz2⟩ := info_parts infoBor
  have K0 := Lib.hid (mk_new (T := 58) h)
  have HA1 := Lib.hid h1
  have HA2 := Lib.hid h2
  have hl1 : l0.length ≤ 9223372036854775807 := h1.len
  have hl2 : p0.length ≤ 9223372036854775807 := h2.len
  obtain ⟨L0, hL0⟩ : ∃ n, n = l0.length := ⟨_, rfl⟩
  obtain ⟨P0, hP0⟩ : ∃ n, n = p0.length := ⟨_, rfl⟩
  have HL0 := Lib.hid hL0
  have HP0 := Lib.hid hP0
  rw [← hL0] at hl1 ⊢
  rw [← hP0] at hl2 ⊢
  clear h h1 h2 hL0 hP0
  go_enter Try.func4, Try.ntmps4
  go_wp2_with fail
  refine (new_any t len cap w).mono ?_
  rintro e w1 ⟨rfl, e1⟩
  have X1 := Lib.hid (XSt.mk (show IsMk w1 w.heap.size 0 by rw [e1]; exact K0.out) (show Below w.heap.size w w1 by rw [e1]; exact (Below.refl _ _).alloc (Nat.le_refl _) _))
  clear e1 K0
  go_wp2_with fail
  go_loopw [12] (fun iv wr => ∃ (I M : Nat), iv = .int .i64 (I : Int) ∧ I ≤ 4 ∧ M ≤ 200 * I ∧ Hid (XSt w wr M)) (fun iv _ => 4 - (intOf iv).toNat)
  case atStart => exact ⟨0, 0, rfl, by omega, by omega, X1⟩
  case round =>
    clear X1
    obtain ⟨I, M, rfl, hI, hM, X⟩ := hrel
    by_cases hlt : I < 4
    · have hlti : (I : Int) < 4 := by omega
      have HIL := Lib.hid (And.intro hlt hM)
      have hM8 : M ≤ 800 := by omega
      go_wp2_with fail
      refine (mborders_any w.heap.size M 10 wr X.out.mkr (by omega) (by decide)).mono ?_
      rintro e w2 ⟨v2, l, rfl, O2, hl, hbor, K2, M2⟩
      have HK2 := Lib.hid K2
      have HM2 := Lib.hid M2
      have hmw := Lib.hid X.out.mkr.lt
      have hmw2 := Lib.hid (Nat.lt_of_lt_of_le X.out.mkr.lt HM2.out.size)
      obtain ⟨A, c, rfl, _, hlc, hcm, hblk⟩ := O2.full
      have HBLK := Lib.hid hblk
      have HO2 := Lib.hid O2
      obtain ⟨L, hL⟩ : ∃ n, n = l.length := ⟨_, rfl⟩
      have HL := Lib.hid hL
      rw [← hL] at HO2 hl hlc HBLK ⊢
      have HHL := Lib.hid hl
      have HLC := Lib.hid (And.intro hlc hcm)
      clear O2 K2 M2 hbor hblk hL hlc hcm
      go_wp2_with fail
      refine (mpulses_any w.heap.size (M + 1 + 3 * 10) 20 w2 HK2.out (by omega) (by decide)).mono ?_
      rintro e w3 ⟨v3, p, rfl, O3, hp, hrun, K3, M3⟩
      have HX := Lib.hid (run_mem hrun)
      have HK3 := Lib.hid K3
      have HM3 := Lib.hid (HM2.out.trans M3)
      have HO2 := Lib.hid (HO2.out.moves M3 hmw.out)
      have HHP := Lib.hid hp
      obtain ⟨A3, c3, rfl, _, hpc, hpm, hpb⟩ := O3.full
      have HPB := Lib.hid hpb
      have HO3 := Lib.hid O3
      obtain ⟨P, hP⟩ : ∃ n, n = p.length := ⟨_, rfl⟩
      have HP := Lib.hid hP
      rw [← hP] at HO3 hp HPB ⊢
      have HPP := Lib.hid hp
      clear O3 K3 M3 hrun HK2 HM2 hpb hP hpc hpm
      go_upto_region 6 with fail
      go_cut [12, 33] (fun i8 b wx => i8 = .int .i64 (I : Int) ∧ (∃ Z : Bool, b = .bool Z ∧ Hid (Z = true ↔ I = 2 ∧ 0 < L)) ∧ wx = w3)
      case first =>
        by_cases h2 : I = 2
        · have h2i : (I : Int) = 2 := by omega
          by_cases h0 : 0 < L
          · have h0i : (0 : Int) < (L : Int) := by omega
            go_wp2_with fail
            go_meet
            case rel => exact ⟨by simp [h2], ⟨_, rfl, Lib.hid (by simp [h2, h0])⟩, rfl⟩
          · have h0i : ¬ (0 : Int) < (L : Int) := by omega
            have h0j : decide ((0 : Int) < (L : Int)) = false := decide_eq_false h0i
            go_wp2_with fail
            go_meet
            case rel => exact ⟨by simp [h2], ⟨_, rfl, Lib.hid (by simp [h0])⟩, rfl⟩
        · have h2i : ¬ (I : Int) = 2 := by omega
          have h2j : ((I : Int) == 2) = false := by simpa using h2i
          have h2k : decide ((I : Int) = 2) = false := decide_eq_false h2i
          go_wp2_with fail
          go_meet
          case rel => exact ⟨rfl, ⟨_, rfl, Lib.hid (by simp [h2])⟩, rfl⟩
      case rest =>
        obtain ⟨rfl, ⟨Z, rfl, hZ⟩, rfl⟩ := hcut
        go_upto_if 33 with fail
        go_cut [13] (fun v wx => Hid (∃ (lq : List Pul) (AQ : Option Addr) (cq N : Nat), v = .slice AQ lq.length cq ∧ lq.length ≤ 11 ∧ TOwn 24 wx wr.heap.size v lq ∧ N ≤ M + 140 ∧ IsMk wx w.heap.size N) ∧ Hid (TOwn 40 wx w2.heap.size (.slice A3 P c3) p) ∧ Hid (Moves w.heap.size wr wx))
        case first =>
          cases Z
          case true =>
            have h20 := (hZ.out.1 rfl).2
            obtain ⟨g, rfl, hg1, hg2⟩ := HBLK.out h20
            have hpl : (0 : Int) < (L : Int) := by omega
            clear hZ
            have hll : L ≤ 10 := HHL.out
            go_wp2_with fail
            refine (next_any w.heap.size _ (L : Int) wc HK3.out (by omega) (by omega) (by omega)).mono ?_
            rintro e w4 ⟨x, rfl, x1, x2, k4, m4⟩
            obtain ⟨X0, rfl⟩ := Int.eq_ofNat_of_zero_le x1
            have HR4 := Lib.hid (show RSt 24 40 w.heap.size g L c wr.heap.size w2.heap.size (.slice A3 P c3) p wr l w4 (M + 94) from
              ⟨k4.more (by omega), HO2.out.moves m4 hmw.out, HO3.out.moves m4 (by have := hmw.out; omega), HM3.out.trans m4, hmw.out, hg1, hg2, Nat.le_refl _⟩)
            have hx3 : X0 < L := by omega
            clear k4 m4 x1 x2 HO2 HO3 HM3 HK3 HBLK
            go_upto_region 8 with fail
            obtain ⟨⟨d0, t0, s0⟩, hp⟩ : ∃ x, x = l.getD X0 (0, 0, 0) := ⟨_, rfl⟩
            have HPP := Lib.hid hp
            have HLN := HL
            have HXL := Lib.hid (show X0 < l.length by rw [← HL.out]; exact hx3)
            obtain ⟨N0, hN0⟩ : ∃ N0, N0 = M + 94 := ⟨_, rfl⟩
            have HN0 := Lib.hid (show N0 ≤ 900 by omega)
            have HGB := Lib.hid (show N0 + 1 + 1 + 1 ≤ M + 130 by omega)
            rw [← hN0] at HR4
            go_cut [15] (fun jv wx => jv = .int .i64 (X0 : Int) ∧ Hid (Fin8 w.heap.size g L c wr.heap.size w2.heap.size (.slice A3 P c3) p wr (M + 130) wx))
            case first =>
              obtain ⟨q0, e0⟩ : ∃ x, x = w4.drew := ⟨_, rfl⟩
              have Rq0 : RSt 24 40 w.heap.size g L c wr.heap.size w2.heap.size (.slice A3 P c3) p wr l q0 N0 := by rw [e0]; exact HR4.out.drewN (k := 1)
              have hS : ∀ N q, RSt 24 40 w.heap.size g L c wr.heap.size w2.heap.size (.slice A3 P c3) p wr l q N → q.cell? ⟨g, X0 * 3, none⟩ = some (.int .i64 d0) ∧ q.cell? ⟨g, X0 * 3 + 1, none⟩ = some (.int .i64 t0) ∧ q.cell? ⟨g, X0 * 3 + 2, none⟩ = some (.int .i64 s0) := fun N q R => by
                have := (R.own.at3 HLN.out HXL.out).1
                rw [← HPP.out] at this
                exact this
              have HE0 := Lib.hid e0
              have hHeld := hS N0 q0 Rq0
              clear hp e0 hN0 HR4
              refine AnyT.begin_at tl8 (fun w' => w'.cell? ⟨g, X0 * 3, none⟩ = some (.int .i64 d0) ∧ w'.cell? ⟨g, X0 * 3 + 1, none⟩ = some (.int .i64 t0) ∧ w'.cell? ⟨g, X0 * 3 + 2, none⟩ = some (.int .i64 s0)) (by kernel_rfl) HE0.out hHeld ?_
              intro hHeld
              refine AnyT.takePD (i := 0) (d := some 38) (v := .slice (some ⟨g, 0, none⟩) L c) rfl rfl (by kernel_rfl) (by kernel_rfl) (by kernel_rfl) rfl (fun _ _ _ h => h) (Or.inl ⟨by rfl, fun wz _ => by go_simp⟩) ?_
              simp only [Act.put, List.setIfInBounds_toArray, List.set_cons_zero, List.set_cons_succ]
              refine AnyT.takePD (i := 1) (d := some 39) (v := .int .i64 (X0 : Int)) rfl rfl (by kernel_rfl) (by kernel_rfl) (by kernel_rfl) rfl (fun _ _ _ h => h) (Or.inl ⟨by rfl, fun wz _ => by go_simp⟩) ?_
              simp only [Act.put, List.setIfInBounds_toArray, List.set_cons_zero, List.set_cons_succ]
              refine AnyT.takePD (i := 2) (d := some 40) (v := .pointer (some ⟨w.heap.size, 0, none⟩)) rfl rfl (by kernel_rfl) (by kernel_rfl) (by kernel_rfl) rfl (fun _ _ _ h => h) (Or.inl ⟨by rfl, fun wz _ => by go_simp⟩) ?_
              simp only [Act.put, List.setIfInBounds_toArray, List.set_cons_zero, List.set_cons_succ]
              refine AnyT.takePD (i := 3) (d := some 41) (v := .slice (some ⟨g, 0, none⟩) L c) rfl rfl (by kernel_rfl) (by kernel_rfl) (by kernel_rfl) rfl (fun _ _ _ h => h) (Or.inl ⟨by rfl, fun wz _ => by go_simp⟩) ?_
              simp only [Act.put, List.setIfInBounds_toArray, List.set_cons_zero, List.set_cons_succ]
              refine AnyT.takePD (i := 4) (d := some 42) (v := .int .i64 (X0 : Int)) rfl rfl (by kernel_rfl) (by kernel_rfl) (by kernel_rfl) rfl (fun _ _ _ h => h) (Or.inl ⟨by rfl, fun wz _ => by go_simp⟩) ?_
              simp only [Act.put, List.setIfInBounds_toArray, List.set_cons_zero, List.set_cons_succ]
              refine AnyT.takePD (i := 5) (d := some 43) (v := .pointer (some ⟨g, X0 * 3, none⟩)) rfl rfl (by kernel_rfl) (by kernel_rfl) (by kernel_rfl) rfl (fun _ _ _ h => h) (Or.inl ⟨by rfl, fun wz _ => by go_simp⟩) ?_
              simp only [Act.put, List.setIfInBounds_toArray, List.set_cons_zero, List.set_cons_succ]
              refine AnyT.takePD (i := 6) (d := some 44) (v := .pointer (some ⟨g, X0 * 3, none⟩)) rfl rfl (by kernel_rfl) (by kernel_rfl) (by kernel_rfl) rfl (fun _ _ _ h => h) (Or.inl ⟨by rfl, fun wz _ => by go_simp⟩) ?_
              simp only [Act.put, List.setIfInBounds_toArray, List.set_cons_zero, List.set_cons_succ]
              refine AnyT.takePD (i := 10) (d := some 48) (v := .pointer (some ⟨w.heap.size, 0, none⟩)) rfl rfl (by kernel_rfl) (by kernel_rfl) (by kernel_rfl) rfl (fun _ _ _ h => h) (Or.inl ⟨by rfl, fun wz _ => by go_simp⟩) ?_
              simp only [Act.put, List.setIfInBounds_toArray, List.set_cons_zero, List.set_cons_succ]
              refine AnyT.takePD (i := 11) (d := some 49) (v := .slice (some ⟨g, 0, none⟩) L c) rfl rfl (by kernel_rfl) (by kernel_rfl) (by kernel_rfl) rfl (fun _ _ _ h => h) (Or.inl ⟨by rfl, fun wz _ => by go_simp⟩) ?_
              simp only [Act.put, List.setIfInBounds_toArray, List.set_cons_zero, List.set_cons_succ]
              refine AnyT.takePD (i := 12) (d := some 50) (v := .int .i64 (X0 : Int)) rfl rfl (by kernel_rfl) (by kernel_rfl) (by kernel_rfl) rfl (fun _ _ _ h => h) (Or.inl ⟨by rfl, fun wz _ => by go_simp⟩) ?_
              simp only [Act.put, List.setIfInBounds_toArray, List.set_cons_zero, List.set_cons_succ]
              refine AnyT.takePD (i := 13) (d := some 51) (v := .pointer (some ⟨g, X0 * 3, none⟩)) rfl rfl (by kernel_rfl) (by kernel_rfl) (by kernel_rfl) rfl (fun _ _ _ h => h) (Or.inl ⟨by rfl, fun wz _ => by go_simp⟩) ?_
              simp only [Act.put, List.setIfInBounds_toArray, List.set_cons_zero, List.set_cons_succ]
              refine AnyT.takePD (i := 14) (d := some 52) (v := .pointer (some ⟨g, X0 * 3 + 1, none⟩)) rfl rfl (by kernel_rfl) (by kernel_rfl) (by kernel_rfl) rfl (fun _ _ _ h => h) (Or.inl ⟨by rfl, fun wz _ => by go_simp⟩) ?_
              simp only [Act.put, List.setIfInBounds_toArray, List.set_cons_zero, List.set_cons_succ]
              refine AnyT.takePD (i := 18) (d := some 56) (v := .pointer (some ⟨w.heap.size, 0, none⟩)) rfl rfl (by kernel_rfl) (by kernel_rfl) (by kernel_rfl) rfl (fun _ _ _ h => h) (Or.inl ⟨by rfl, fun wz _ => by go_simp⟩) ?_
              simp only [Act.put, List.setIfInBounds_toArray, List.set_cons_zero, List.set_cons_succ]
              refine AnyT.takePD (i := 19) (d := some 57) (v := .slice (some ⟨g, 0, none⟩) L c) rfl rfl (by kernel_rfl) (by kernel_rfl) (by kernel_rfl) rfl (fun _ _ _ h => h) (Or.inl ⟨by rfl, fun wz _ => by go_simp⟩) ?_
              simp only [Act.put, List.setIfInBounds_toArray, List.set_cons_zero, List.set_cons_succ]
              refine AnyT.takePD (i := 20) (d := some 58) (v := .int .i64 (X0 : Int)) rfl rfl (by kernel_rfl) (by kernel_rfl) (by kernel_rfl) rfl (fun _ _ _ h => h) (Or.inl ⟨by rfl, fun wz _ => by go_simp⟩) ?_
              simp only [Act.put, List.setIfInBounds_toArray, List.set_cons_zero, List.set_cons_succ]
              refine AnyT.takePD (i := 21) (d := some 59) (v := .pointer (some ⟨g, X0 * 3, none⟩)) rfl rfl (by kernel_rfl) (by kernel_rfl) (by kernel_rfl) rfl (fun _ _ _ h => h) (Or.inl ⟨by rfl, fun wz _ => by go_simp⟩) ?_
              simp only [Act.put, List.setIfInBounds_toArray, List.set_cons_zero, List.set_cons_succ]
              refine AnyT.takePD (i := 22) (d := some 60) (v := .pointer (some ⟨g, X0 * 3 + 2, none⟩)) rfl rfl (by kernel_rfl) (by kernel_rfl) (by kernel_rfl) rfl (fun _ _ _ h => h) (Or.inl ⟨by rfl, fun wz _ => by go_simp⟩) ?_
              simp only [Act.put, List.setIfInBounds_toArray, List.set_cons_zero, List.set_cons_succ]
              refine AnyT.takeD (i := 7) (d := some 45) (v := .int .i64 d0) rfl rfl (by kernel_rfl) (by kernel_rfl) (by kernel_rfl) (by kernel_rfl) (fun _ _ _ h => h) (Or.inl ⟨by rfl, fun wz hz => by obtain ⟨z0, z1, z2⟩ := hz; go_simp⟩) hHeld ?_
              simp only [Act.put, List.setIfInBounds_toArray, List.set_cons_zero, List.set_cons_succ]
              refine AnyT.takeD (i := 15) (d := some 53) (v := .int .i64 t0) rfl rfl (by kernel_rfl) (by kernel_rfl) (by kernel_rfl) (by kernel_rfl) (fun _ _ _ h => h) (Or.inl ⟨by rfl, fun wz hz => by obtain ⟨z0, z1, z2⟩ := hz; go_simp⟩) hHeld ?_
              simp only [Act.put, List.setIfInBounds_toArray, List.set_cons_zero, List.set_cons_succ]
              refine AnyT.takeD (i := 23) (d := some 61) (v := .int .i64 s0) rfl rfl (by kernel_rfl) (by kernel_rfl) (by kernel_rfl) (by kernel_rfl) (fun _ _ _ h => h) (Or.inl ⟨by rfl, fun wz hz => by obtain ⟨z0, z1, z2⟩ := hz; go_simp⟩) hHeld ?_
              simp only [Act.put, List.setIfInBounds_toArray, List.set_cons_zero, List.set_cons_succ]
              clear hHeld
              refine AnyT.branch (rs := [8, 16, 24]) (by kernel_rfl) (by simp) ?_
              refine all_cons (?_) (all_cons (?_) (all_cons (?_) all_nil))
              · refine stepB (i := 8) (dd := some 46) (u := d0) (v := -1) (t := 32) rfl rfl rfl (by go_simp) Rq0 (hS N0) (fun q1 b1 e1 Rq1 L1_q1 ne1_q1 tr => ?_)
                clear Rq0 tr e1
                simp only [Act.put, List.setIfInBounds_toArray, List.set_cons_zero, List.set_cons_succ]
                refine AnyT.branch (rs := [9, 16, 24]) (by kernel_rfl) (by simp) ?_
                refine all_cons (?_) (all_cons (?_) (all_cons (?_) all_nil))
                · refine stepC (i := 9) (dd := some 47) rfl rfl rfl (by go_simp) Rq1 (by have := HN0.out; omega) L1_q1 ne1_q1 (hS (N0 + 1)) (fun v1_q2 q2 Rq2 tr => ?_)
                  clear Rq1 tr L1_q1
                  simp only [Act.put, List.setIfInBounds_toArray, List.set_cons_zero, List.set_cons_succ]
                  refine AnyT.branch (rs := [16, 24]) (by kernel_rfl) (by simp) ?_
                  refine all_cons (?_) (all_cons (?_) all_nil)
                  · refine stepB (i := 16) (dd := some 54) (u := t0) (v := -1) (t := 32) rfl rfl rfl (by go_simp) Rq2 (hS (N0 + 1)) (fun q3 b3 e3 Rq3 L2_q3 ne2_q3 tr => ?_)
                    clear Rq2 tr e3
                    simp only [Act.put, List.setIfInBounds_toArray, List.set_cons_zero, List.set_cons_succ]
                    refine AnyT.branch (rs := [17, 24]) (by kernel_rfl) (by simp) ?_
                    refine all_cons (?_) (all_cons (?_) all_nil)
                    · refine stepC (i := 17) (dd := some 55) rfl rfl rfl (by go_simp) Rq3 (by have := HN0.out; omega) L2_q3 ne2_q3 (hS ((N0 + 1) + 1)) (fun v2_q4 q4 Rq4 tr => ?_)
                      clear Rq3 tr L2_q3
                      simp only [Act.put, List.setIfInBounds_toArray, List.set_cons_zero, List.set_cons_succ]
                      refine AnyT.branch (rs := [24]) (by kernel_rfl) (by simp) ?_
                      refine all_cons (?_) all_nil
                      · refine stepB (i := 24) (dd := some 62) (u := s0) (v := 0) (t := 2) rfl rfl rfl (by go_simp) Rq4 (hS ((N0 + 1) + 1)) (fun q5 b5 e5 Rq5 L3_q5 ne3_q5 tr => ?_)
                        clear Rq4 tr e5
                        simp only [Act.put, List.setIfInBounds_toArray, List.set_cons_zero, List.set_cons_succ]
                        refine AnyT.branch (rs := [25]) (by kernel_rfl) (by simp) ?_
                        refine all_cons (?_) all_nil
                        · refine stepC (i := 25) (dd := some 63) rfl rfl rfl (by go_simp) Rq5 (by have := HN0.out; omega) L3_q5 ne3_q5 (hS (((N0 + 1) + 1) + 1)) (fun v3_q6 q6 Rq6 tr => ?_)
                          clear Rq5 tr L3_q5
                          simp only [Act.put, List.setIfInBounds_toArray, List.set_cons_zero, List.set_cons_succ]
                          refine AnyT.branch (rs := [26]) (by kernel_rfl) (by simp) ?_
                          refine all_cons ?_ all_nil
                          refine AnyT.yield (i := 26) (d := some 64) (w' := q6) (v := .agg #[.int .i64 v1_q2, .int .i64 v2_q4, .int .i64 v3_q6]) rfl rfl rfl (by go_simp) (fun _ => hS _ _ Rq6) ?_
                          simp only [Act.put, List.setIfInBounds_toArray, List.set_cons_zero, List.set_cons_succ]
                          refine AnyT.branch (rs := [27]) (by kernel_rfl) (by simp) ?_
                          refine all_cons ?_ all_nil
                          refine AnyT.yield (i := 27) (d := some 65) (w' := q6) (v := .pointer (some ⟨g, X0 * 3, none⟩)) rfl rfl rfl (by go_simp) (fun _ => hS _ _ Rq6) ?_
                          simp only [Act.put, List.setIfInBounds_toArray, List.set_cons_zero, List.set_cons_succ]
                          refine AnyT.branch (rs := [28]) (by kernel_rfl) (by simp) ?_
                          refine all_cons ?_ all_nil
                          refine AnyT.step (i := 28) rfl (fun KK hK => ?_)
                          have hat := Rq6.own.at3 HLN.out HXL.out
                          obtain ⟨⟨g0, g1, g2⟩, f0, f1, f2⟩ := hat
                          have FIN := Lib.hid (fin8 Rq6 HLN.out HGB.out X0 v1_q2 v2_q4 v3_q6)
                          clear hS Rq6
                          go_simp
                          refine hK.out _ _ (fun h => absurd h (by decide)) ?_
                          clear hK KK g0 g1 g2 f0 f1 f2
                          refine AnyT.done_ (by kernel_rfl) ?_ _
                          go_wp2_with fail
                          go_meet
                          case rel => exact ⟨rfl, FIN⟩
                    · refine stepB (i := 24) (dd := some 62) (u := s0) (v := 0) (t := 2) rfl rfl rfl (by go_simp) Rq3 (hS (N0 + 1)) (fun q7 b7 e7 Rq7 L3_q7 ne3_q7 tr => ?_)
                      have L2_q7 := tr b3 L2_q3
                      clear Rq3 tr e7 L2_q3
                      simp only [Act.put, List.setIfInBounds_toArray, List.set_cons_zero, List.set_cons_succ]
                      refine AnyT.branch (rs := [17]) (by kernel_rfl) (by simp) ?_
                      refine all_cons (?_) all_nil
                      · refine stepC (i := 17) (dd := some 55) rfl rfl rfl (by go_simp) Rq7 (by have := HN0.out; omega) L2_q7 ne2_q3 (hS ((N0 + 1) + 1)) (fun v2_q8 q8 Rq8 tr => ?_)
                        have L3_q8 := tr b7 ne3_q7 L3_q7
                        clear Rq7 tr L2_q7 L3_q7
                        simp only [Act.put, List.setIfInBounds_toArray, List.set_cons_zero, List.set_cons_succ]
                        refine AnyT.branch (rs := [25]) (by kernel_rfl) (by simp) ?_
                        refine all_cons (?_) all_nil
                        · refine stepC (i := 25) (dd := some 63) rfl rfl rfl (by go_simp) Rq8 (by have := HN0.out; omega) L3_q8 ne3_q7 (hS (((N0 + 1) + 1) + 1)) (fun v3_q9 q9 Rq9 tr => ?_)
                          clear Rq8 tr L3_q8
                          simp only [Act.put, List.setIfInBounds_toArray, List.set_cons_zero, List.set_cons_succ]
                          refine AnyT.branch (rs := [26]) (by kernel_rfl) (by simp) ?_
                          refine all_cons ?_ all_nil
                          refine AnyT.yield (i := 26) (d := some 64) (w' := q9) (v := .agg #[.int .i64 v1_q2, .int .i64 v2_q8, .int .i64 v3_q9]) rfl rfl rfl (by go_simp) (fun _ => hS _ _ Rq9) ?_
                          simp only [Act.put, List.setIfInBounds_toArray, List.set_cons_zero, List.set_cons_succ]
                          refine AnyT.branch (rs := [27]) (by kernel_rfl) (by simp) ?_
                          refine all_cons ?_ all_nil
                          refine AnyT.yield (i := 27) (d := some 65) (w' := q9) (v := .pointer (some ⟨g, X0 * 3, none⟩)) rfl rfl rfl (by go_simp) (fun _ => hS _ _ Rq9) ?_
                          simp only [Act.put, List.setIfInBounds_toArray, List.set_cons_zero, List.set_cons_succ]
                          refine AnyT.branch (rs := [28]) (by kernel_rfl) (by simp) ?_
                          refine all_cons ?_ all_nil
                          refine AnyT.step (i := 28) rfl (fun KK hK => ?_)
                          have hat := Rq9.own.at3 HLN.out HXL.out
                          obtain ⟨⟨g0, g1, g2⟩, f0, f1, f2⟩ := hat
                          have FIN := Lib.hid (fin8 Rq9 HLN.out HGB.out X0 v1_q2 v2_q8 v3_q9)
                          clear hS Rq9
                          go_simp
                          refine hK.out _ _ (fun h => absurd h (by decide)) ?_
                          clear hK KK g0 g1 g2 f0 f1 f2
                          refine AnyT.done_ (by kernel_rfl) ?_ _
                          go_wp2_with fail
                          go_meet
                          case rel => exact ⟨rfl, FIN⟩
                  · refine stepB (i := 24) (dd := some 62) (u := s0) (v := 0) (t := 2) rfl rfl rfl (by go_simp) Rq2 (hS (N0 + 1)) (fun q10 b10 e10 Rq10 L3_q10 ne3_q10 tr => ?_)
                    clear Rq2 tr e10
                    simp only [Act.put, List.setIfInBounds_toArray, List.set_cons_zero, List.set_cons_succ]
                    refine AnyT.branch (rs := [16]) (by kernel_rfl) (by simp) ?_
                    refine all_cons (?_) all_nil
                    · refine stepB (i := 16) (dd := some 54) (u := t0) (v := -1) (t := 32) rfl rfl rfl (by go_simp) Rq10 (hS (N0 + 1)) (fun q11 b11 e11 Rq11 L2_q11 ne2_q11 tr => ?_)
                      have L3_q11 := tr b10 L3_q10
                      clear Rq10 tr e11 L3_q10
                      simp only [Act.put, List.setIfInBounds_toArray, List.set_cons_zero, List.set_cons_succ]
                      refine AnyT.branch (rs := [17]) (by kernel_rfl) (by simp) ?_
                      refine all_cons (?_) all_nil
                      · refine stepC (i := 17) (dd := some 55) rfl rfl rfl (by go_simp) Rq11 (by have := HN0.out; omega) L2_q11 ne2_q11 (hS ((N0 + 1) + 1)) (fun v2_q12 q12 Rq12 tr => ?_)
                        have L3_q12 := tr b10 ne3_q10 L3_q11
                        clear Rq11 tr L2_q11 L3_q11
                        simp only [Act.put, List.setIfInBounds_toArray, List.set_cons_zero, List.set_cons_succ]
                        refine AnyT.branch (rs := [25]) (by kernel_rfl) (by simp) ?_
                        refine all_cons (?_) all_nil
                        · refine stepC (i := 25) (dd := some 63) rfl rfl rfl (by go_simp) Rq12 (by have := HN0.out; omega) L3_q12 ne3_q10 (hS (((N0 + 1) + 1) + 1)) (fun v3_q13 q13 Rq13 tr => ?_)
                          clear Rq12 tr L3_q12
                          simp only [Act.put, List.setIfInBounds_toArray, List.set_cons_zero, List.set_cons_succ]
                          refine AnyT.branch (rs := [26]) (by kernel_rfl) (by simp) ?_
                          refine all_cons ?_ all_nil
                          refine AnyT.yield (i := 26) (d := some 64) (w' := q13) (v := .agg #[.int .i64 v1_q2, .int .i64 v2_q12, .int .i64 v3_q13]) rfl rfl rfl (by go_simp) (fun _ => hS _ _ Rq13) ?_
                          simp only [Act.put, List.setIfInBounds_toArray, List.set_cons_zero, List.set_cons_succ]
                          refine AnyT.branch (rs := [27]) (by kernel_rfl) (by simp) ?_
                          refine all_cons ?_ all_nil
                          refine AnyT.yield (i := 27) (d := some 65) (w' := q13) (v := .pointer (some ⟨g, X0 * 3, none⟩)) rfl rfl rfl (by go_simp) (fun _ => hS _ _ Rq13) ?_
                          simp only [Act.put, List.setIfInBounds_toArray, List.set_cons_zero, List.set_cons_succ]
                          refine AnyT.branch (rs := [28]) (by kernel_rfl) (by simp) ?_
                          refine all_cons ?_ all_nil
                          refine AnyT.step (i := 28) rfl (fun KK hK => ?_)
                          have hat := Rq13.own.at3 HLN.out HXL.out
                          obtain ⟨⟨g0, g1, g2⟩, f0, f1, f2⟩ := hat
                          have FIN := Lib.hid (fin8 Rq13 HLN.out HGB.out X0 v1_q2 v2_q12 v3_q13)
                          clear hS Rq13
                          go_simp
                          refine hK.out _ _ (fun h => absurd h (by decide)) ?_
                          clear hK KK g0 g1 g2 f0 f1 f2
                          refine AnyT.done_ (by kernel_rfl) ?_ _
                          go_wp2_with fail
                          go_meet
                          case rel => exact ⟨rfl, FIN⟩
                · refine stepB (i := 16) (dd := some 54) (u := t0) (v := -1) (t := 32) rfl rfl rfl (by go_simp) Rq1 (hS N0) (fun q14 b14 e14 Rq14 L2_q14 ne2_q14 tr => ?_)
                  have L1_q14 := tr b1 L1_q1
                  clear Rq1 tr e14 L1_q1
                  simp only [Act.put, List.setIfInBounds_toArray, List.set_cons_zero, List.set_cons_succ]
                  refine AnyT.branch (rs := [9, 24]) (by kernel_rfl) (by simp) ?_
                  refine all_cons (?_) (all_cons (?_) all_nil)
                  · refine stepC (i := 9) (dd := some 47) rfl rfl rfl (by go_simp) Rq14 (by have := HN0.out; omega) L1_q14 ne1_q1 (hS (N0 + 1)) (fun v1_q15 q15 Rq15 tr => ?_)
                    have L2_q15 := tr b14 ne2_q14 L2_q14
                    clear Rq14 tr L1_q14 L2_q14
                    simp only [Act.put, List.setIfInBounds_toArray, List.set_cons_zero, List.set_cons_succ]
                    refine AnyT.branch (rs := [17, 24]) (by kernel_rfl) (by simp) ?_
                    refine all_cons (?_) (all_cons (?_) all_nil)
                    · refine stepC (i := 17) (dd := some 55) rfl rfl rfl (by go_simp) Rq15 (by have := HN0.out; omega) L2_q15 ne2_q14 (hS ((N0 + 1) + 1)) (fun v2_q16 q16 Rq16 tr => ?_)
                      clear Rq15 tr L2_q15
                      simp only [Act.put, List.setIfInBounds_toArray, List.set_cons_zero, List.set_cons_succ]
                      refine AnyT.branch (rs := [24]) (by kernel_rfl) (by simp) ?_
                      refine all_cons (?_) all_nil
                      · refine stepB (i := 24) (dd := some 62) (u := s0) (v := 0) (t := 2) rfl rfl rfl (by go_simp) Rq16 (hS ((N0 + 1) + 1)) (fun q17 b17 e17 Rq17 L3_q17 ne3_q17 tr => ?_)
                        clear Rq16 tr e17
                        simp only [Act.put, List.setIfInBounds_toArray, List.set_cons_zero, List.set_cons_succ]
                        refine AnyT.branch (rs := [25]) (by kernel_rfl) (by simp) ?_
                        refine all_cons (?_) all_nil
                        · refine stepC (i := 25) (dd := some 63) rfl rfl rfl (by go_simp) Rq17 (by have := HN0.out; omega) L3_q17 ne3_q17 (hS (((N0 + 1) + 1) + 1)) (fun v3_q18 q18 Rq18 tr => ?_)
                          clear Rq17 tr L3_q17
                          simp only [Act.put, List.setIfInBounds_toArray, List.set_cons_zero, List.set_cons_succ]
                          refine AnyT.branch (rs := [26]) (by kernel_rfl) (by simp) ?_
                          refine all_cons ?_ all_nil
                          refine AnyT.yield (i := 26) (d := some 64) (w' := q18) (v := .agg #[.int .i64 v1_q15, .int .i64 v2_q16, .int .i64 v3_q18]) rfl rfl rfl (by go_simp) (fun _ => hS _ _ Rq18) ?_
                          simp only [Act.put, List.setIfInBounds_toArray, List.set_cons_zero, List.set_cons_succ]
                          refine AnyT.branch (rs := [27]) (by kernel_rfl) (by simp) ?_
                          refine all_cons ?_ all_nil
                          refine AnyT.yield (i := 27) (d := some 65) (w' := q18) (v := .pointer (some ⟨g, X0 * 3, none⟩)) rfl rfl rfl (by go_simp) (fun _ => hS _ _ Rq18) ?_
                          simp only [Act.put, List.setIfInBounds_toArray, List.set_cons_zero, List.set_cons_succ]
                          refine AnyT.branch (rs := [28]) (by kernel_rfl) (by simp) ?_
                          refine all_cons ?_ all_nil
                          refine AnyT.step (i := 28) rfl (fun KK hK => ?_)
                          have hat := Rq18.own.at3 HLN.out HXL.out
                          obtain ⟨⟨g0, g1, g2⟩, f0, f1, f2⟩ := hat
                          have FIN := Lib.hid (fin8 Rq18 HLN.out HGB.out X0 v1_q15 v2_q16 v3_q18)
                          clear hS Rq18
                          go_simp
                          refine hK.out _ _ (fun h => absurd h (by decide)) ?_
                          clear hK KK g0 g1 g2 f0 f1 f2
                          refine AnyT.done_ (by kernel_rfl) ?_ _
                          go_wp2_with fail
                          go_meet
                          case rel => exact ⟨rfl, FIN⟩
                    · refine stepB (i := 24) (dd := some 62) (u := s0) (v := 0) (t := 2) rfl rfl rfl (by go_simp) Rq15 (hS (N0 + 1)) (fun q19 b19 e19 Rq19 L3_q19 ne3_q19 tr => ?_)
                      have L2_q19 := tr b14 L2_q15
                      clear Rq15 tr e19 L2_q15
                      simp only [Act.put, List.setIfInBounds_toArray, List.set_cons_zero, List.set_cons_succ]
                      refine AnyT.branch (rs := [17]) (by kernel_rfl) (by simp) ?_
                      refine all_cons (?_) all_nil
                      · refine stepC (i := 17) (dd := some 55) rfl rfl rfl (by go_simp) Rq19 (by have := HN0.out; omega) L2_q19 ne2_q14 (hS ((N0 + 1) + 1)) (fun v2_q20 q20 Rq20 tr => ?_)
                        have L3_q20 := tr b19 ne3_q19 L3_q19
                        clear Rq19 tr L2_q19 L3_q19
                        simp only [Act.put, List.setIfInBounds_toArray, List.set_cons_zero, List.set_cons_succ]
                        refine AnyT.branch (rs := [25]) (by kernel_rfl) (by simp) ?_
                        refine all_cons (?_) all_nil
                        · refine stepC (i := 25) (dd := some 63) rfl rfl rfl (by go_simp) Rq20 (by have := HN0.out; omega) L3_q20 ne3_q19 (hS (((N0 + 1) + 1) + 1)) (fun v3_q21 q21 Rq21 tr => ?_)
                          clear Rq20 tr L3_q20
                          simp only [Act.put, List.setIfInBounds_toArray, List.set_cons_zero, List.set_cons_succ]
                          refine AnyT.branch (rs := [26]) (by kernel_rfl) (by simp) ?_
                          refine all_cons ?_ all_nil
                          refine AnyT.yield (i := 26) (d := some 64) (w' := q21) (v := .agg #[.int .i64 v1_q15, .int .i64 v2_q20, .int .i64 v3_q21]) rfl rfl rfl (by go_simp) (fun _ => hS _ _ Rq21) ?_
                          simp only [Act.put, List.setIfInBounds_toArray, List.set_cons_zero, List.set_cons_succ]
                          refine AnyT.branch (rs := [27]) (by kernel_rfl) (by simp) ?_
                          refine all_cons ?_ all_nil
                          refine AnyT.yield (i := 27) (d := some 65) (w' := q21) (v := .pointer (some ⟨g, X0 * 3, none⟩)) rfl rfl rfl (by go_simp) (fun _ => hS _ _ Rq21) ?_
                          simp only [Act.put, List.setIfInBounds_toArray, List.set_cons_zero, List.set_cons_succ]
                          refine AnyT.branch (rs := [28]) (by kernel_rfl) (by simp) ?_
                          refine all_cons ?_ all_nil
                          refine AnyT.step (i := 28) rfl (fun KK hK => ?_)
                          have hat := Rq21.own.at3 HLN.out HXL.out
                          obtain ⟨⟨g0, g1, g2⟩, f0, f1, f2⟩ := hat
                          have FIN := Lib.hid (fin8 Rq21 HLN.out HGB.out X0 v1_q15 v2_q20 v3_q21)
                          clear hS Rq21
                          go_simp
                          refine hK.out _ _ (fun h => absurd h (by decide)) ?_
                          clear hK KK g0 g1 g2 f0 f1 f2
                          refine AnyT.done_ (by kernel_rfl) ?_ _
                          go_wp2_with fail
                          go_meet
                          case rel => exact ⟨rfl, FIN⟩
                  · refine stepB (i := 24) (dd := some 62) (u := s0) (v := 0) (t := 2) rfl rfl rfl (by go_simp) Rq14 (hS N0) (fun q22 b22 e22 Rq22 L3_q22 ne3_q22 tr => ?_)
                    have L1_q22 := tr b1 L1_q14
                    have L2_q22 := tr b14 L2_q14
                    clear Rq14 tr e22 L1_q14 L2_q14
                    simp only [Act.put, List.setIfInBounds_toArray, List.set_cons_zero, List.set_cons_succ]
                    refine AnyT.branch (rs := [9]) (by kernel_rfl) (by simp) ?_
                    refine all_cons (?_) all_nil
                    · refine stepC (i := 9) (dd := some 47) rfl rfl rfl (by go_simp) Rq22 (by have := HN0.out; omega) L1_q22 ne1_q1 (hS (N0 + 1)) (fun v1_q23 q23 Rq23 tr => ?_)
                      have L2_q23 := tr b14 ne2_q14 L2_q22
                      have L3_q23 := tr b22 ne3_q22 L3_q22
                      clear Rq22 tr L1_q22 L2_q22 L3_q22
                      simp only [Act.put, List.setIfInBounds_toArray, List.set_cons_zero, List.set_cons_succ]
                      refine AnyT.branch (rs := [17]) (by kernel_rfl) (by simp) ?_
                      refine all_cons (?_) all_nil
                      · refine stepC (i := 17) (dd := some 55) rfl rfl rfl (by go_simp) Rq23 (by have := HN0.out; omega) L2_q23 ne2_q14 (hS ((N0 + 1) + 1)) (fun v2_q24 q24 Rq24 tr => ?_)
                        have L3_q24 := tr b22 ne3_q22 L3_q23
                        clear Rq23 tr L2_q23 L3_q23
                        simp only [Act.put, List.setIfInBounds_toArray, List.set_cons_zero, List.set_cons_succ]
                        refine AnyT.branch (rs := [25]) (by kernel_rfl) (by simp) ?_
                        refine all_cons (?_) all_nil
                        · refine stepC (i := 25) (dd := some 63) rfl rfl rfl (by go_simp) Rq24 (by have := HN0.out; omega) L3_q24 ne3_q22 (hS (((N0 + 1) + 1) + 1)) (fun v3_q25 q25 Rq25 tr => ?_)
                          clear Rq24 tr L3_q24
                          simp only [Act.put, List.setIfInBounds_toArray, List.set_cons_zero, List.set_cons_succ]
                          refine AnyT.branch (rs := [26]) (by kernel_rfl) (by simp) ?_
                          refine all_cons ?_ all_nil
                          refine AnyT.yield (i := 26) (d := some 64) (w' := q25) (v := .agg #[.int .i64 v1_q23, .int .i64 v2_q24, .int .i64 v3_q25]) rfl rfl rfl (by go_simp) (fun _ => hS _ _ Rq25) ?_
                          simp only [Act.put, List.setIfInBounds_toArray, List.set_cons_zero, List.set_cons_succ]
                          refine AnyT.branch (rs := [27]) (by kernel_rfl) (by simp) ?_
                          refine all_cons ?_ all_nil
                          refine AnyT.yield (i := 27) (d := some 65) (w' := q25) (v := .pointer (some ⟨g, X0 * 3, none⟩)) rfl rfl rfl (by go_simp) (fun _ => hS _ _ Rq25) ?_
                          simp only [Act.put, List.setIfInBounds_toArray, List.set_cons_zero, List.set_cons_succ]
                          refine AnyT.branch (rs := [28]) (by kernel_rfl) (by simp) ?_
                          refine all_cons ?_ all_nil
                          refine AnyT.step (i := 28) rfl (fun KK hK => ?_)
                          have hat := Rq25.own.at3 HLN.out HXL.out
                          obtain ⟨⟨g0, g1, g2⟩, f0, f1, f2⟩ := hat
                          have FIN := Lib.hid (fin8 Rq25 HLN.out HGB.out X0 v1_q23 v2_q24 v3_q25)
                          clear hS Rq25
                          go_simp
                          refine hK.out _ _ (fun h => absurd h (by decide)) ?_
                          clear hK KK g0 g1 g2 f0 f1 f2
                          refine AnyT.done_ (by kernel_rfl) ?_ _
                          go_wp2_with fail
                          go_meet
                          case rel => exact ⟨rfl, FIN⟩
                · refine stepB (i := 24) (dd := some 62) (u := s0) (v := 0) (t := 2) rfl rfl rfl (by go_simp) Rq1 (hS N0) (fun q26 b26 e26 Rq26 L3_q26 ne3_q26 tr => ?_)
                  have L1_q26 := tr b1 L1_q1
                  clear Rq1 tr e26 L1_q1
                  simp only [Act.put, List.setIfInBounds_toArray, List.set_cons_zero, List.set_cons_succ]
                  refine AnyT.branch (rs := [9, 16]) (by kernel_rfl) (by simp) ?_
                  refine all_cons (?_) (all_cons (?_) all_nil)
                  · refine stepC (i := 9) (dd := some 47) rfl rfl rfl (by go_simp) Rq26 (by have := HN0.out; omega) L1_q26 ne1_q1 (hS (N0 + 1)) (fun v1_q27 q27 Rq27 tr => ?_)
                    have L3_q27 := tr b26 ne3_q26 L3_q26
                    clear Rq26 tr L1_q26 L3_q26
                    simp only [Act.put, List.setIfInBounds_toArray, List.set_cons_zero, List.set_cons_succ]
                    refine AnyT.branch (rs := [16]) (by kernel_rfl) (by simp) ?_
                    refine all_cons (?_) all_nil
                    · refine stepB (i := 16) (dd := some 54) (u := t0) (v := -1) (t := 32) rfl rfl rfl (by go_simp) Rq27 (hS (N0 + 1)) (fun q28 b28 e28 Rq28 L2_q28 ne2_q28 tr => ?_)
                      have L3_q28 := tr b26 L3_q27
                      clear Rq27 tr e28 L3_q27
                      simp only [Act.put, List.setIfInBounds_toArray, List.set_cons_zero, List.set_cons_succ]
                      refine AnyT.branch (rs := [17]) (by kernel_rfl) (by simp) ?_
                      refine all_cons (?_) all_nil
                      · refine stepC (i := 17) (dd := some 55) rfl rfl rfl (by go_simp) Rq28 (by have := HN0.out; omega) L2_q28 ne2_q28 (hS ((N0 + 1) + 1)) (fun v2_q29 q29 Rq29 tr => ?_)
                        have L3_q29 := tr b26 ne3_q26 L3_q28
                        clear Rq28 tr L2_q28 L3_q28
                        simp only [Act.put, List.setIfInBounds_toArray, List.set_cons_zero, List.set_cons_succ]
                        refine AnyT.branch (rs := [25]) (by kernel_rfl) (by simp) ?_
                        refine all_cons (?_) all_nil
                        · refine stepC (i := 25) (dd := some 63) rfl rfl rfl (by go_simp) Rq29 (by have := HN0.out; omega) L3_q29 ne3_q26 (hS (((N0 + 1) + 1) + 1)) (fun v3_q30 q30 Rq30 tr => ?_)
                          clear Rq29 tr L3_q29
                          simp only [Act.put, List.setIfInBounds_toArray, List.set_cons_zero, List.set_cons_succ]
                          refine AnyT.branch (rs := [26]) (by kernel_rfl) (by simp) ?_
                          refine all_cons ?_ all_nil
                          refine AnyT.yield (i := 26) (d := some 64) (w' := q30) (v := .agg #[.int .i64 v1_q27, .int .i64 v2_q29, .int .i64 v3_q30]) rfl rfl rfl (by go_simp) (fun _ => hS _ _ Rq30) ?_
                          simp only [Act.put, List.setIfInBounds_toArray, List.set_cons_zero, List.set_cons_succ]
                          refine AnyT.branch (rs := [27]) (by kernel_rfl) (by simp) ?_
                          refine all_cons ?_ all_nil
                          refine AnyT.yield (i := 27) (d := some 65) (w' := q30) (v := .pointer (some ⟨g, X0 * 3, none⟩)) rfl rfl rfl (by go_simp) (fun _ => hS _ _ Rq30) ?_
                          simp only [Act.put, List.setIfInBounds_toArray, List.set_cons_zero, List.set_cons_succ]
                          refine AnyT.branch (rs := [28]) (by kernel_rfl) (by simp) ?_
                          refine all_cons ?_ all_nil
                          refine AnyT.step (i := 28) rfl (fun KK hK => ?_)
                          have hat := Rq30.own.at3 HLN.out HXL.out
                          obtain ⟨⟨g0, g1, g2⟩, f0, f1, f2⟩ := hat
                          have FIN := Lib.hid (fin8 Rq30 HLN.out HGB.out X0 v1_q27 v2_q29 v3_q30)
                          clear hS Rq30
                          go_simp
                          refine hK.out _ _ (fun h => absurd h (by decide)) ?_
                          clear hK KK g0 g1 g2 f0 f1 f2
                          refine AnyT.done_ (by kernel_rfl) ?_ _
                          go_wp2_with fail
                          go_meet
                          case rel => exact ⟨rfl, FIN⟩
                  · refine stepB (i := 16) (dd := some 54) (u := t0) (v := -1) (t := 32) rfl rfl rfl (by go_simp) Rq26 (hS N0) (fun q31 b31 e31 Rq31 L2_q31 ne2_q31 tr => ?_)
                    have L1_q31 := tr b1 L1_q26
                    have L3_q31 := tr b26 L3_q26
                    clear Rq26 tr e31 L1_q26 L3_q26
                    simp only [Act.put, List.setIfInBounds_toArray, List.set_cons_zero, List.set_cons_succ]
                    refine AnyT.branch (rs := [9]) (by kernel_rfl) (by simp) ?_
                    refine all_cons (?_) all_nil
                    · refine stepC (i := 9) (dd := some 47) rfl rfl rfl (by go_simp) Rq31 (by have := HN0.out; omega) L1_q31 ne1_q1 (hS (N0 + 1)) (fun v1_q32 q32 Rq32 tr => ?_)
                      have L3_q32 := tr b26 ne3_q26 L3_q31
                      have L2_q32 := tr b31 ne2_q31 L2_q31
                      clear Rq31 tr L1_q31 L3_q31 L2_q31
                      simp only [Act.put, List.setIfInBounds_toArray, List.set_cons_zero, List.set_cons_succ]
                      refine AnyT.branch (rs := [17]) (by kernel_rfl) (by simp) ?_
                      refine all_cons (?_) all_nil
                      · refine stepC (i := 17) (dd := some 55) rfl rfl rfl (by go_simp) Rq32 (by have := HN0.out; omega) L2_q32 ne2_q31 (hS ((N0 + 1) + 1)) (fun v2_q33 q33 Rq33 tr => ?_)
                        have L3_q33 := tr b26 ne3_q26 L3_q32
                        clear Rq32 tr L2_q32 L3_q32
                        simp only [Act.put, List.setIfInBounds_toArray, List.set_cons_zero, List.set_cons_succ]
                        refine AnyT.branch (rs := [25]) (by kernel_rfl) (by simp) ?_
                        refine all_cons (?_) all_nil
                        · refine stepC (i := 25) (dd := some 63) rfl rfl rfl (by go_simp) Rq33 (by have := HN0.out; omega) L3_q33 ne3_q26 (hS (((N0 + 1) + 1) + 1)) (fun v3_q34 q34 Rq34 tr => ?_)
                          clear Rq33 tr L3_q33
                          simp only [Act.put, List.setIfInBounds_toArray, List.set_cons_zero, List.set_cons_succ]
                          refine AnyT.branch (rs := [26]) (by kernel_rfl) (by simp) ?_
                          refine all_cons ?_ all_nil
                          refine AnyT.yield (i := 26) (d := some 64) (w' := q34) (v := .agg #[.int .i64 v1_q32, .int .i64 v2_q33, .int .i64 v3_q34]) rfl rfl rfl (by go_simp) (fun _ => hS _ _ Rq34) ?_
                          simp only [Act.put, List.setIfInBounds_toArray, List.set_cons_zero, List.set_cons_succ]
                          refine AnyT.branch (rs := [27]) (by kernel_rfl) (by simp) ?_
                          refine all_cons ?_ all_nil
                          refine AnyT.yield (i := 27) (d := some 65) (w' := q34) (v := .pointer (some ⟨g, X0 * 3, none⟩)) rfl rfl rfl (by go_simp) (fun _ => hS _ _ Rq34) ?_
                          simp only [Act.put, List.setIfInBounds_toArray, List.set_cons_zero, List.set_cons_succ]
                          refine AnyT.branch (rs := [28]) (by kernel_rfl) (by simp) ?_
                          refine all_cons ?_ all_nil
                          refine AnyT.step (i := 28) rfl (fun KK hK => ?_)
                          have hat := Rq34.own.at3 HLN.out HXL.out
                          obtain ⟨⟨g0, g1, g2⟩, f0, f1, f2⟩ := hat
                          have FIN := Lib.hid (fin8 Rq34 HLN.out HGB.out X0 v1_q32 v2_q33 v3_q34)
                          clear hS Rq34
                          go_simp
                          refine hK.out _ _ (fun h => absurd h (by decide)) ?_
                          clear hK KK g0 g1 g2 f0 f1 f2
                          refine AnyT.done_ (by kernel_rfl) ?_ _
                          go_wp2_with fail
                          go_meet
                          case rel => exact ⟨rfl, FIN⟩
              · refine stepB (i := 16) (dd := some 54) (u := t0) (v := -1) (t := 32) rfl rfl rfl (by go_simp) Rq0 (hS N0) (fun q35 b35 e35 Rq35 L2_q35 ne2_q35 tr => ?_)
                clear Rq0 tr e35
                simp only [Act.put, List.setIfInBounds_toArray, List.set_cons_zero, List.set_cons_succ]
                refine AnyT.branch (rs := [8, 24]) (by kernel_rfl) (by simp) ?_
                refine all_cons (?_) (all_cons (?_) all_nil)
                · refine stepB (i := 8) (dd := some 46) (u := d0) (v := -1) (t := 32) rfl rfl rfl (by go_simp) Rq35 (hS N0) (fun q36 b36 e36 Rq36 L1_q36 ne1_q36 tr => ?_)
                  have L2_q36 := tr b35 L2_q35
                  clear Rq35 tr e36 L2_q35
                  simp only [Act.put, List.setIfInBounds_toArray, List.set_cons_zero, List.set_cons_succ]
                  refine AnyT.branch (rs := [9, 24]) (by kernel_rfl) (by simp) ?_
                  refine all_cons (?_) (all_cons (?_) all_nil)
                  · refine stepC (i := 9) (dd := some 47) rfl rfl rfl (by go_simp) Rq36 (by have := HN0.out; omega) L1_q36 ne1_q36 (hS (N0 + 1)) (fun v1_q37 q37 Rq37 tr => ?_)
                    have L2_q37 := tr b35 ne2_q35 L2_q36
                    clear Rq36 tr L1_q36 L2_q36
                    simp only [Act.put, List.setIfInBounds_toArray, List.set_cons_zero, List.set_cons_succ]
                    refine AnyT.branch (rs := [17, 24]) (by kernel_rfl) (by simp) ?_
                    refine all_cons (?_) (all_cons (?_) all_nil)
                    · refine stepC (i := 17) (dd := some 55) rfl rfl rfl (by go_simp) Rq37 (by have := HN0.out; omega) L2_q37 ne2_q35 (hS ((N0 + 1) + 1)) (fun v2_q38 q38 Rq38 tr => ?_)
                      clear Rq37 tr L2_q37
                      simp only [Act.put, List.setIfInBounds_toArray, List.set_cons_zero, List.set_cons_succ]
                      refine AnyT.branch (rs := [24]) (by kernel_rfl) (by simp) ?_
                      refine all_cons (?_) all_nil
                      · refine stepB (i := 24) (dd := some 62) (u := s0) (v := 0) (t := 2) rfl rfl rfl (by go_simp) Rq38 (hS ((N0 + 1) + 1)) (fun q39 b39 e39 Rq39 L3_q39 ne3_q39 tr => ?_)
                        clear Rq38 tr e39
                        simp only [Act.put, List.setIfInBounds_toArray, List.set_cons_zero, List.set_cons_succ]
                        refine AnyT.branch (rs := [25]) (by kernel_rfl) (by simp) ?_
                        refine all_cons (?_) all_nil
                        · refine stepC (i := 25) (dd := some 63) rfl rfl rfl (by go_simp) Rq39 (by have := HN0.out; omega) L3_q39 ne3_q39 (hS (((N0 + 1) + 1) + 1)) (fun v3_q40 q40 Rq40 tr => ?_)
                          clear Rq39 tr L3_q39
                          simp only [Act.put, List.setIfInBounds_toArray, List.set_cons_zero, List.set_cons_succ]
                          refine AnyT.branch (rs := [26]) (by kernel_rfl) (by simp) ?_
                          refine all_cons ?_ all_nil
                          refine AnyT.yield (i := 26) (d := some 64) (w' := q40) (v := .agg #[.int .i64 v1_q37, .int .i64 v2_q38, .int .i64 v3_q40]) rfl rfl rfl (by go_simp) (fun _ => hS _ _ Rq40) ?_
                          simp only [Act.put, List.setIfInBounds_toArray, List.set_cons_zero, List.set_cons_succ]
                          refine AnyT.branch (rs := [27]) (by kernel_rfl) (by simp) ?_
                          refine all_cons ?_ all_nil
                          refine AnyT.yield (i := 27) (d := some 65) (w' := q40) (v := .pointer (some ⟨g, X0 * 3, none⟩)) rfl rfl rfl (by go_simp) (fun _ => hS _ _ Rq40) ?_
                          simp only [Act.put, List.setIfInBounds_toArray, List.set_cons_zero, List.set_cons_succ]
                          refine AnyT.branch (rs := [28]) (by kernel_rfl) (by simp) ?_
                          refine all_cons ?_ all_nil
                          refine AnyT.step (i := 28) rfl (fun KK hK => ?_)
                          have hat := Rq40.own.at3 HLN.out HXL.out
                          obtain ⟨⟨g0, g1, g2⟩, f0, f1, f2⟩ := hat
                          have FIN := Lib.hid (fin8 Rq40 HLN.out HGB.out X0 v1_q37 v2_q38 v3_q40)
                          clear hS Rq40
                          go_simp
                          refine hK.out _ _ (fun h => absurd h (by decide)) ?_
                          clear hK KK g0 g1 g2 f0 f1 f2
                          refine AnyT.done_ (by kernel_rfl) ?_ _
                          go_wp2_with fail
                          go_meet
                          case rel => exact ⟨rfl, FIN⟩
                    · refine stepB (i := 24) (dd := some 62) (u := s0) (v := 0) (t := 2) rfl rfl rfl (by go_simp) Rq37 (hS (N0 + 1)) (fun q41 b41 e41 Rq41 L3_q41 ne3_q41 tr => ?_)
                      have L2_q41 := tr b35 L2_q37
                      clear Rq37 tr e41 L2_q37
                      simp only [Act.put, List.setIfInBounds_toArray, List.set_cons_zero, List.set_cons_succ]
                      refine AnyT.branch (rs := [17]) (by kernel_rfl) (by simp) ?_
                      refine all_cons (?_) all_nil
                      · refine stepC (i := 17) (dd := some 55) rfl rfl rfl (by go_simp) Rq41 (by have := HN0.out; omega) L2_q41 ne2_q35 (hS ((N0 + 1) + 1)) (fun v2_q42 q42 Rq42 tr => ?_)
                        have L3_q42 := tr b41 ne3_q41 L3_q41
                        clear Rq41 tr L2_q41 L3_q41
                        simp only [Act.put, List.setIfInBounds_toArray, List.set_cons_zero, List.set_cons_succ]
                        refine AnyT.branch (rs := [25]) (by kernel_rfl) (by simp) ?_
                        refine all_cons (?_) all_nil
                        · refine stepC (i := 25) (dd := some 63) rfl rfl rfl (by go_simp) Rq42 (by have := HN0.out; omega) L3_q42 ne3_q41 (hS (((N0 + 1) + 1) + 1)) (fun v3_q43 q43 Rq43 tr => ?_)
                          clear Rq42 tr L3_q42
                          simp only [Act.put, List.setIfInBounds_toArray, List.set_cons_zero, List.set_cons_succ]
                          refine AnyT.branch (rs := [26]) (by kernel_rfl) (by simp) ?_
                          refine all_cons ?_ all_nil
                          refine AnyT.yield (i := 26) (d := some 64) (w' := q43) (v := .agg #[.int .i64 v1_q37, .int .i64 v2_q42, .int .i64 v3_q43]) rfl rfl rfl (by go_simp) (fun _ => hS _ _ Rq43) ?_
                          simp only [Act.put, List.setIfInBounds_toArray, List.set_cons_zero, List.set_cons_succ]
                          refine AnyT.branch (rs := [27]) (by kernel_rfl) (by simp) ?_
                          refine all_cons ?_ all_nil
                          refine AnyT.yield (i := 27) (d := some 65) (w' := q43) (v := .pointer (some ⟨g, X0 * 3, none⟩)) rfl rfl rfl (by go_simp) (fun _ => hS _ _ Rq43) ?_
                          simp only [Act.put, List.setIfInBounds_toArray, List.set_cons_zero, List.set_cons_succ]
                          refine AnyT.branch (rs := [28]) (by kernel_rfl) (by simp) ?_
                          refine all_cons ?_ all_nil
                          refine AnyT.step (i := 28) rfl (fun KK hK => ?_)
                          have hat := Rq43.own.at3 HLN.out HXL.out
                          obtain ⟨⟨g0, g1, g2⟩, f0, f1, f2⟩ := hat
                          have FIN := Lib.hid (fin8 Rq43 HLN.out HGB.out X0 v1_q37 v2_q42 v3_q43)
                          clear hS Rq43
                          go_simp
                          refine hK.out _ _ (fun h => absurd h (by decide)) ?_
                          clear hK KK g0 g1 g2 f0 f1 f2
                          refine AnyT.done_ (by kernel_rfl) ?_ _
                          go_wp2_with fail
                          go_meet
                          case rel => exact ⟨rfl, FIN⟩
                  · refine stepB (i := 24) (dd := some 62) (u := s0) (v := 0) (t := 2) rfl rfl rfl (by go_simp) Rq36 (hS N0) (fun q44 b44 e44 Rq44 L3_q44 ne3_q44 tr => ?_)
                    have L2_q44 := tr b35 L2_q36
                    have L1_q44 := tr b36 L1_q36
                    clear Rq36 tr e44 L2_q36 L1_q36
                    simp only [Act.put, List.setIfInBounds_toArray, List.set_cons_zero, List.set_cons_succ]
                    refine AnyT.branch (rs := [9]) (by kernel_rfl) (by simp) ?_
                    refine all_cons (?_) all_nil
                    · refine stepC (i := 9) (dd := some 47) rfl rfl rfl (by go_simp) Rq44 (by have := HN0.out; omega) L1_q44 ne1_q36 (hS (N0 + 1)) (fun v1_q45 q45 Rq45 tr => ?_)
                      have L2_q45 := tr b35 ne2_q35 L2_q44
                      have L3_q45 := tr b44 ne3_q44 L3_q44
                      clear Rq44 tr L1_q44 L2_q44 L3_q44
                      simp only [Act.put, List.setIfInBounds_toArray, List.set_cons_zero, List.set_cons_succ]
                      refine AnyT.branch (rs := [17]) (by kernel_rfl) (by simp) ?_
                      refine all_cons (?_) all_nil
                      · refine stepC (i := 17) (dd := some 55) rfl rfl rfl (by go_simp) Rq45 (by have := HN0.out; omega) L2_q45 ne2_q35 (hS ((N0 + 1) + 1)) (fun v2_q46 q46 Rq46 tr => ?_)
                        have L3_q46 := tr b44 ne3_q44 L3_q45
                        clear Rq45 tr L2_q45 L3_q45
                        simp only [Act.put, List.setIfInBounds_toArray, List.set_cons_zero, List.set_cons_succ]
                        refine AnyT.branch (rs := [25]) (by kernel_rfl) (by simp) ?_
                        refine all_cons (?_) all_nil
                        · refine stepC (i := 25) (dd := some 63) rfl rfl rfl (by go_simp) Rq46 (by have := HN0.out; omega) L3_q46 ne3_q44 (hS (((N0 + 1) + 1) + 1)) (fun v3_q47 q47 Rq47 tr => ?_)
                          clear Rq46 tr L3_q46
                          simp only [Act.put, List.setIfInBounds_toArray, List.set_cons_zero, List.set_cons_succ]
                          refine AnyT.branch (rs := [26]) (by kernel_rfl) (by simp) ?_
                          refine all_cons ?_ all_nil
                          refine AnyT.yield (i := 26) (d := some 64) (w' := q47) (v := .agg #[.int .i64 v1_q45, .int .i64 v2_q46, .int .i64 v3_q47]) rfl rfl rfl (by go_simp) (fun _ => hS _ _ Rq47) ?_
                          simp only [Act.put, List.setIfInBounds_toArray, List.set_cons_zero, List.set_cons_succ]
                          refine AnyT.branch (rs := [27]) (by kernel_rfl) (by simp) ?_
                          refine all_cons ?_ all_nil
                          refine AnyT.yield (i := 27) (d := some 65) (w' := q47) (v := .pointer (some ⟨g, X0 * 3, none⟩)) rfl rfl rfl (by go_simp) (fun _ => hS _ _ Rq47) ?_
                          simp only [Act.put, List.setIfInBounds_toArray, List.set_cons_zero, List.set_cons_succ]
                          refine AnyT.branch (rs := [28]) (by kernel_rfl) (by simp) ?_
                          refine all_cons ?_ all_nil
                          refine AnyT.step (i := 28) rfl (fun KK hK => ?_)
                          have hat := Rq47.own.at3 HLN.out HXL.out
                          obtain ⟨⟨g0, g1, g2⟩, f0, f1, f2⟩ := hat
                          have FIN := Lib.hid (fin8 Rq47 HLN.out HGB.out X0 v1_q45 v2_q46 v3_q47)
                          clear hS Rq47
                          go_simp
                          refine hK.out _ _ (fun h => absurd h (by decide)) ?_
                          clear hK KK g0 g1 g2 f0 f1 f2
                          refine AnyT.done_ (by kernel_rfl) ?_ _
                          go_wp2_with fail
                          go_meet
                          case rel => exact ⟨rfl, FIN⟩
                · refine stepB (i := 24) (dd := some 62) (u := s0) (v := 0) (t := 2) rfl rfl rfl (by go_simp) Rq35 (hS N0) (fun q48 b48 e48 Rq48 L3_q48 ne3_q48 tr => ?_)
                  have L2_q48 := tr b35 L2_q35
                  clear Rq35 tr e48 L2_q35
                  simp only [Act.put, List.setIfInBounds_toArray, List.set_cons_zero, List.set_cons_succ]
                  refine AnyT.branch (rs := [8]) (by kernel_rfl) (by simp) ?_
                  refine all_cons (?_) all_nil
                  · refine stepB (i := 8) (dd := some 46) (u := d0) (v := -1) (t := 32) rfl rfl rfl (by go_simp) Rq48 (hS N0) (fun q49 b49 e49 Rq49 L1_q49 ne1_q49 tr => ?_)
                    have L2_q49 := tr b35 L2_q48
                    have L3_q49 := tr b48 L3_q48
                    clear Rq48 tr e49 L2_q48 L3_q48
                    simp only [Act.put, List.setIfInBounds_toArray, List.set_cons_zero, List.set_cons_succ]
                    refine AnyT.branch (rs := [9]) (by kernel_rfl) (by simp) ?_
                    refine all_cons (?_) all_nil
                    · refine stepC (i := 9) (dd := some 47) rfl rfl rfl (by go_simp) Rq49 (by have := HN0.out; omega) L1_q49 ne1_q49 (hS (N0 + 1)) (fun v1_q50 q50 Rq50 tr => ?_)
                      have L2_q50 := tr b35 ne2_q35 L2_q49
                      have L3_q50 := tr b48 ne3_q48 L3_q49
                      clear Rq49 tr L1_q49 L2_q49 L3_q49
                      simp only [Act.put, List.setIfInBounds_toArray, List.set_cons_zero, List.set_cons_succ]
                      refine AnyT.branch (rs := [17]) (by kernel_rfl) (by simp) ?_
                      refine all_cons (?_) all_nil
                      · refine stepC (i := 17) (dd := some 55) rfl rfl rfl (by go_simp) Rq50 (by have := HN0.out; omega) L2_q50 ne2_q35 (hS ((N0 + 1) + 1)) (fun v2_q51 q51 Rq51 tr => ?_)
                        have L3_q51 := tr b48 ne3_q48 L3_q50
                        clear Rq50 tr L2_q50 L3_q50
                        simp only [Act.put, List.setIfInBounds_toArray, List.set_cons_zero, List.set_cons_succ]
                        refine AnyT.branch (rs := [25]) (by kernel_rfl) (by simp) ?_
                        refine all_cons (?_) all_nil
                        · refine stepC (i := 25) (dd := some 63) rfl rfl rfl (by go_simp) Rq51 (by have := HN0.out; omega) L3_q51 ne3_q48 (hS (((N0 + 1) + 1) + 1)) (fun v3_q52 q52 Rq52 tr => ?_)
                          clear Rq51 tr L3_q51
                          simp only [Act.put, List.setIfInBounds_toArray, List.set_cons_zero, List.set_cons_succ]
                          refine AnyT.branch (rs := [26]) (by kernel_rfl) (by simp) ?_
                          refine all_cons ?_ all_nil
                          refine AnyT.yield (i := 26) (d := some 64) (w' := q52) (v := .agg #[.int .i64 v1_q50, .int .i64 v2_q51, .int .i64 v3_q52]) rfl rfl rfl (by go_simp) (fun _ => hS _ _ Rq52) ?_
                          simp only [Act.put, List.setIfInBounds_toArray, List.set_cons_zero, List.set_cons_succ]
                          refine AnyT.branch (rs := [27]) (by kernel_rfl) (by simp) ?_
                          refine all_cons ?_ all_nil
                          refine AnyT.yield (i := 27) (d := some 65) (w' := q52) (v := .pointer (some ⟨g, X0 * 3, none⟩)) rfl rfl rfl (by go_simp) (fun _ => hS _ _ Rq52) ?_
                          simp only [Act.put, List.setIfInBounds_toArray, List.set_cons_zero, List.set_cons_succ]
                          refine AnyT.branch (rs := [28]) (by kernel_rfl) (by simp) ?_
                          refine all_cons ?_ all_nil
                          refine AnyT.step (i := 28) rfl (fun KK hK => ?_)
                          have hat := Rq52.own.at3 HLN.out HXL.out
                          obtain ⟨⟨g0, g1, g2⟩, f0, f1, f2⟩ := hat
                          have FIN := Lib.hid (fin8 Rq52 HLN.out HGB.out X0 v1_q50 v2_q51 v3_q52)
                          clear hS Rq52
                          go_simp
                          refine hK.out _ _ (fun h => absurd h (by decide)) ?_
                          clear hK KK g0 g1 g2 f0 f1 f2
                          refine AnyT.done_ (by kernel_rfl) ?_ _
                          go_wp2_with fail
                          go_meet
                          case rel => exact ⟨rfl, FIN⟩
              · refine stepB (i := 24) (dd := some 62) (u := s0) (v := 0) (t := 2) rfl rfl rfl (by go_simp) Rq0 (hS N0) (fun q53 b53 e53 Rq53 L3_q53 ne3_q53 tr => ?_)
                clear Rq0 tr e53
                simp only [Act.put, List.setIfInBounds_toArray, List.set_cons_zero, List.set_cons_succ]
                refine AnyT.branch (rs := [8, 16]) (by kernel_rfl) (by simp) ?_
                refine all_cons (?_) (all_cons (?_) all_nil)
                · refine stepB (i := 8) (dd := some 46) (u := d0) (v := -1) (t := 32) rfl rfl rfl (by go_simp) Rq53 (hS N0) (fun q54 b54 e54 Rq54 L1_q54 ne1_q54 tr => ?_)
                  have L3_q54 := tr b53 L3_q53
                  clear Rq53 tr e54 L3_q53
                  simp only [Act.put, List.setIfInBounds_toArray, List.set_cons_zero, List.set_cons_succ]
                  refine AnyT.branch (rs := [9, 16]) (by kernel_rfl) (by simp) ?_
                  refine all_cons (?_) (all_cons (?_) all_nil)
                  · refine stepC (i := 9) (dd := some 47) rfl rfl rfl (by go_simp) Rq54 (by have := HN0.out; omega) L1_q54 ne1_q54 (hS (N0 + 1)) (fun v1_q55 q55 Rq55 tr => ?_)
                    have L3_q55 := tr b53 ne3_q53 L3_q54
                    clear Rq54 tr L1_q54 L3_q54
                    simp only [Act.put, List.setIfInBounds_toArray, List.set_cons_zero, List.set_cons_succ]
                    refine AnyT.branch (rs := [16]) (by kernel_rfl) (by simp) ?_
                    refine all_cons (?_) all_nil
                    · refine stepB (i := 16) (dd := some 54) (u := t0) (v := -1) (t := 32) rfl rfl rfl (by go_simp) Rq55 (hS (N0 + 1)) (fun q56 b56 e56 Rq56 L2_q56 ne2_q56 tr => ?_)
                      have L3_q56 := tr b53 L3_q55
                      clear Rq55 tr e56 L3_q55
                      simp only [Act.put, List.setIfInBounds_toArray, List.set_cons_zero, List.set_cons_succ]
                      refine AnyT.branch (rs := [17]) (by kernel_rfl) (by simp) ?_
                      refine all_cons (?_) all_nil
                      · refine stepC (i := 17) (dd := some 55) rfl rfl rfl (by go_simp) Rq56 (by have := HN0.out; omega) L2_q56 ne2_q56 (hS ((N0 + 1) + 1)) (fun v2_q57 q57 Rq57 tr => ?_)
                        have L3_q57 := tr b53 ne3_q53 L3_q56
                        clear Rq56 tr L2_q56 L3_q56
                        simp only [Act.put, List.setIfInBounds_toArray, List.set_cons_zero, List.set_cons_succ]
                        refine AnyT.branch (rs := [25]) (by kernel_rfl) (by simp) ?_
                        refine all_cons (?_) all_nil
                        · refine stepC (i := 25) (dd := some 63) rfl rfl rfl (by go_simp) Rq57 (by have := HN0.out; omega) L3_q57 ne3_q53 (hS (((N0 + 1) + 1) + 1)) (fun v3_q58 q58 Rq58 tr => ?_)
                          clear Rq57 tr L3_q57
                          simp only [Act.put, List.setIfInBounds_toArray, List.set_cons_zero, List.set_cons_succ]
                          refine AnyT.branch (rs := [26]) (by kernel_rfl) (by simp) ?_
                          refine all_cons ?_ all_nil
                          refine AnyT.yield (i := 26) (d := some 64) (w' := q58) (v := .agg #[.int .i64 v1_q55, .int .i64 v2_q57, .int .i64 v3_q58]) rfl rfl rfl (by go_simp) (fun _ => hS _ _ Rq58) ?_
                          simp only [Act.put, List.setIfInBounds_toArray, List.set_cons_zero, List.set_cons_succ]
                          refine AnyT.branch (rs := [27]) (by kernel_rfl) (by simp) ?_
                          refine all_cons ?_ all_nil
                          refine AnyT.yield (i := 27) (d := some 65) (w' := q58) (v := .pointer (some ⟨g, X0 * 3, none⟩)) rfl rfl rfl (by go_simp) (fun _ => hS _ _ Rq58) ?_
                          simp only [Act.put, List.setIfInBounds_toArray, List.set_cons_zero, List.set_cons_succ]
                          refine AnyT.branch (rs := [28]) (by kernel_rfl) (by simp) ?_
                          refine all_cons ?_ all_nil
                          refine AnyT.step (i := 28) rfl (fun KK hK => ?_)
                          have hat := Rq58.own.at3 HLN.out HXL.out
                          obtain ⟨⟨g0, g1, g2⟩, f0, f1, f2⟩ := hat
                          have FIN := Lib.hid (fin8 Rq58 HLN.out HGB.out X0 v1_q55 v2_q57 v3_q58)
                          clear hS Rq58
                          go_simp
                          refine hK.out _ _ (fun h => absurd h (by decide)) ?_
                          clear hK KK g0 g1 g2 f0 f1 f2
                          refine AnyT.done_ (by kernel_rfl) ?_ _
                          go_wp2_with fail
                          go_meet
                          case rel => exact ⟨rfl, FIN⟩
                  · refine stepB (i := 16) (dd := some 54) (u := t0) (v := -1) (t := 32) rfl rfl rfl (by go_simp) Rq54 (hS N0) (fun q59 b59 e59 Rq59 L2_q59 ne2_q59 tr => ?_)
                    have L3_q59 := tr b53 L3_q54
                    have L1_q59 := tr b54 L1_q54
                    clear Rq54 tr e59 L3_q54 L1_q54
                    simp only [Act.put, List.setIfInBounds_toArray, List.set_cons_zero, List.set_cons_succ]
                    refine AnyT.branch (rs := [9]) (by kernel_rfl) (by simp) ?_
                    refine all_cons (?_) all_nil
                    · refine stepC (i := 9) (dd := some 47) rfl rfl rfl (by go_simp) Rq59 (by have := HN0.out; omega) L1_q59 ne1_q54 (hS (N0 + 1)) (fun v1_q60 q60 Rq60 tr => ?_)
                      have L3_q60 := tr b53 ne3_q53 L3_q59
                      have L2_q60 := tr b59 ne2_q59 L2_q59
                      clear Rq59 tr L1_q59 L3_q59 L2_q59
                      simp only [Act.put, List.setIfInBounds_toArray, List.set_cons_zero, List.set_cons_succ]
                      refine AnyT.branch (rs := [17]) (by kernel_rfl) (by simp) ?_
                      refine all_cons (?_) all_nil
                      · refine stepC (i := 17) (dd := some 55) rfl rfl rfl (by go_simp) Rq60 (by have := HN0.out; omega) L2_q60 ne2_q59 (hS ((N0 + 1) + 1)) (fun v2_q61 q61 Rq61 tr => ?_)
                        have L3_q61 := tr b53 ne3_q53 L3_q60
                        clear Rq60 tr L2_q60 L3_q60
                        simp only [Act.put, List.setIfInBounds_toArray, List.set_cons_zero, List.set_cons_succ]
                        refine AnyT.branch (rs := [25]) (by kernel_rfl) (by simp) ?_
                        refine all_cons (?_) all_nil
                        · refine stepC (i := 25) (dd := some 63) rfl rfl rfl (by go_simp) Rq61 (by have := HN0.out; omega) L3_q61 ne3_q53 (hS (((N0 + 1) + 1) + 1)) (fun v3_q62 q62 Rq62 tr => ?_)
                          clear Rq61 tr L3_q61
                          simp only [Act.put, List.setIfInBounds_toArray, List.set_cons_zero, List.set_cons_succ]
                          refine AnyT.branch (rs := [26]) (by kernel_rfl) (by simp) ?_
                          refine all_cons ?_ all_nil
                          refine AnyT.yield (i := 26) (d := some 64) (w' := q62) (v := .agg #[.int .i64 v1_q60, .int .i64 v2_q61, .int .i64 v3_q62]) rfl rfl rfl (by go_simp) (fun _ => hS _ _ Rq62) ?_
                          simp only [Act.put, List.setIfInBounds_toArray, List.set_cons_zero, List.set_cons_succ]
                          refine AnyT.branch (rs := [27]) (by kernel_rfl) (by simp) ?_
                          refine all_cons ?_ all_nil
                          refine AnyT.yield (i := 27) (d := some 65) (w' := q62) (v := .pointer (some ⟨g, X0 * 3, none⟩)) rfl rfl rfl (by go_simp) (fun _ => hS _ _ Rq62) ?_
                          simp only [Act.put, List.setIfInBounds_toArray, List.set_cons_zero, List.set_cons_succ]
                          refine AnyT.branch (rs := [28]) (by kernel_rfl) (by simp) ?_
                          refine all_cons ?_ all_nil
                          refine AnyT.step (i := 28) rfl (fun KK hK => ?_)
                          have hat := Rq62.own.at3 HLN.out HXL.out
                          obtain ⟨⟨g0, g1, g2⟩, f0, f1, f2⟩ := hat
                          have FIN := Lib.hid (fin8 Rq62 HLN.out HGB.out X0 v1_q60 v2_q61 v3_q62)
                          clear hS Rq62
                          go_simp
                          refine hK.out _ _ (fun h => absurd h (by decide)) ?_
                          clear hK KK g0 g1 g2 f0 f1 f2
                          refine AnyT.done_ (by kernel_rfl) ?_ _
                          go_wp2_with fail
                          go_meet
                          case rel => exact ⟨rfl, FIN⟩
                · refine stepB (i := 16) (dd := some 54) (u := t0) (v := -1) (t := 32) rfl rfl rfl (by go_simp) Rq53 (hS N0) (fun q63 b63 e63 Rq63 L2_q63 ne2_q63 tr => ?_)
                  have L3_q63 := tr b53 L3_q53
                  clear Rq53 tr e63 L3_q53
                  simp only [Act.put, List.setIfInBounds_toArray, List.set_cons_zero, List.set_cons_succ]
                  refine AnyT.branch (rs := [8]) (by kernel_rfl) (by simp) ?_
                  refine all_cons (?_) all_nil
                  · refine stepB (i := 8) (dd := some 46) (u := d0) (v := -1) (t := 32) rfl rfl rfl (by go_simp) Rq63 (hS N0) (fun q64 b64 e64 Rq64 L1_q64 ne1_q64 tr => ?_)
                    have L3_q64 := tr b53 L3_q63
                    have L2_q64 := tr b63 L2_q63
                    clear Rq63 tr e64 L3_q63 L2_q63
                    simp only [Act.put, List.setIfInBounds_toArray, List.set_cons_zero, List.set_cons_succ]
                    refine AnyT.branch (rs := [9]) (by kernel_rfl) (by simp) ?_
                    refine all_cons (?_) all_nil
                    · refine stepC (i := 9) (dd := some 47) rfl rfl rfl (by go_simp) Rq64 (by have := HN0.out; omega) L1_q64 ne1_q64 (hS (N0 + 1)) (fun v1_q65 q65 Rq65 tr => ?_)
                      have L3_q65 := tr b53 ne3_q53 L3_q64
                      have L2_q65 := tr b63 ne2_q63 L2_q64
                      clear Rq64 tr L1_q64 L3_q64 L2_q64
                      simp only [Act.put, List.setIfInBounds_toArray, List.set_cons_zero, List.set_cons_succ]
                      refine AnyT.branch (rs := [17]) (by kernel_rfl) (by simp) ?_
                      refine all_cons (?_) all_nil
                      · refine stepC (i := 17) (dd := some 55) rfl rfl rfl (by go_simp) Rq65 (by have := HN0.out; omega) L2_q65 ne2_q63 (hS ((N0 + 1) + 1)) (fun v2_q66 q66 Rq66 tr => ?_)
                        have L3_q66 := tr b53 ne3_q53 L3_q65
                        clear Rq65 tr L2_q65 L3_q65
                        simp only [Act.put, List.setIfInBounds_toArray, List.set_cons_zero, List.set_cons_succ]
                        refine AnyT.branch (rs := [25]) (by kernel_rfl) (by simp) ?_
                        refine all_cons (?_) all_nil
                        · refine stepC (i := 25) (dd := some 63) rfl rfl rfl (by go_simp) Rq66 (by have := HN0.out; omega) L3_q66 ne3_q53 (hS (((N0 + 1) + 1) + 1)) (fun v3_q67 q67 Rq67 tr => ?_)
                          clear Rq66 tr L3_q66
                          simp only [Act.put, List.setIfInBounds_toArray, List.set_cons_zero, List.set_cons_succ]
                          refine AnyT.branch (rs := [26]) (by kernel_rfl) (by simp) ?_
                          refine all_cons ?_ all_nil
                          refine AnyT.yield (i := 26) (d := some 64) (w' := q67) (v := .agg #[.int .i64 v1_q65, .int .i64 v2_q66, .int .i64 v3_q67]) rfl rfl rfl (by go_simp) (fun _ => hS _ _ Rq67) ?_
                          simp only [Act.put, List.setIfInBounds_toArray, List.set_cons_zero, List.set_cons_succ]
                          refine AnyT.branch (rs := [27]) (by kernel_rfl) (by simp) ?_
                          refine all_cons ?_ all_nil
                          refine AnyT.yield (i := 27) (d := some 65) (w' := q67) (v := .pointer (some ⟨g, X0 * 3, none⟩)) rfl rfl rfl (by go_simp) (fun _ => hS _ _ Rq67) ?_
                          simp only [Act.put, List.setIfInBounds_toArray, List.set_cons_zero, List.set_cons_succ]
                          refine AnyT.branch (rs := [28]) (by kernel_rfl) (by simp) ?_
                          refine all_cons ?_ all_nil
                          refine AnyT.step (i := 28) rfl (fun KK hK => ?_)
                          have hat := Rq67.own.at3 HLN.out HXL.out
                          obtain ⟨⟨g0, g1, g2⟩, f0, f1, f2⟩ := hat
                          have FIN := Lib.hid (fin8 Rq67 HLN.out HGB.out X0 v1_q65 v2_q66 v3_q67)
                          clear hS Rq67
                          go_simp
                          refine hK.out _ _ (fun h => absurd h (by decide)) ?_
                          clear hK KK g0 g1 g2 f0 f1 f2
                          refine AnyT.done_ (by kernel_rfl) ?_ _
                          go_wp2_with fail
                          go_meet
                          case rel => exact ⟨rfl, FIN⟩
            case rest =>
              obtain ⟨rfl, hfin⟩ := hcut
              obtain ⟨lr, Nr, hlr, hNr, hRr⟩ := hfin.out
              have HRR := Lib.hid hRr
              have HLR := Lib.hid hlr
              have HGL := Lib.hid (show w.heap.size < g from Nat.lt_of_lt_of_le hRr.gt hRr.ge)
              clear hfin hRr hp HPP HLN HXL HN0 HGB hN0 HR4
              have hllr : L ≤ 10 := HHL.out
              go_wp2_with fail
              refine (next_any w.heap.size Nr (L : Int) wc HRR.out.maker (by omega) (by omega) (by omega)).mono ?_
              rintro e w5 ⟨y, rfl, y1, y2, k5, m5⟩
              have R5 := Lib.hid (HRR.out.moves m5 k5)
              obtain ⟨Y0, rfl⟩ := Int.eq_ofNat_of_zero_le y1
              have hY : Y0 < L := by omega
              obtain ⟨⟨cc0, cc1, cc2⟩, _⟩ := R5.out.own.at3 HLR.out.symm (show Y0 < lr.length by rw [HLR.out]; exact hY)
              obtain ⟨⟨xd, xt, xz⟩, hxp⟩ : ∃ x, x = lr.getD Y0 (0, 0, 0) := ⟨_, rfl⟩
              rw [← hxp] at cc0 cc1 cc2
              simp only at cc0 cc1 cc2
              have PL := R5.out.own.alloc (.cells #[.int .i64 xd, .int .i64 xt, .int .i64 xz] 24)
              unfold TOwn Flat at PL
              rw [HLR.out] at PL
              have HPL := Lib.hid PL
              have HBS := Lib.hid (show wr.heap.size ≤ w5.heap.size from R5.out.bel.size)
              have HHL2 := Lib.hid hllr
              clear k5 m5 HRR hxp PL
              go_wp2_with (first | (at_builtin; refine wpList_append_lies _ rfl (.tmp 66) (.tmp 74) 22 rfl wr.heap.size 24 i0 (.agg #[.int .i64 0, .int .i64 0, .int .i64 0]) 3 24 Try.underlying22 hi hz0 hz1 hz2 rfl (by decide) _ L ((flatP lr).map (Value.int .i64)) rfl HPL.out ⟨w5.heap.size, 0, none⟩ 1 1 ((flatP [(xd, xt, xz)]).map (Value.int .i64)) rfl rfl (news_int (W := w5) (ys := flatP [(xd, xt, xz)])) (one_cells (ys := flatP [(xd, xt, xz)])) (by decide) (by unfold maxLen; have := HHL2.out; omega) (by have := HHL2.out; omega) (by have := HBS.out; simp only [World.size_alloc]; omega) _ rfl ?_; intro gg capp w7 hown hgr hgb hlt2; have R6 := R5.out.below ((Below.refl _ _).alloc (Nat.le_refl _) (.cells #[.int .i64 xd, .int .i64 xt, .int .i64 xz] 24)); have AP := Lib.hid (TOwn.app (l := lr) (m := [(xd, xt, xz)]) hown HLR.out.symm rfl); have K7 := Lib.hid (R6.maker.grown hgr (fun j hj => by have := (R6.own.block hj).1; have := R6.gt; omega)); have P7 := Lib.hid (R6.own2.kept hgr (by cases hb : (Value.slice A3 P c3).ownBlock with | none => exact Or.inl rfl | some b => exact Or.inr (fun e => by have e2 : some b = some g := e; injection e2 with e3; have := (R6.own2.block hb).1; have := R6.lt2; omega))); have M7 := Lib.hid (R6.bel.grown hgr (fun j hj => by have := (R6.own.block hj).1; have := R6.old; omega)); clear hown hgr hgb hlt2 R6))
              go_meet
              case rel => exact ⟨Lib.hid ⟨lr ++ [(xd, xt, xz)], _, capp, Nr + 1, by rw [List.length_append, HLR.out]; rfl, by rw [List.length_append, HLR.out]; simp; omega, AP.out, by omega, K7.out⟩, P7, M7⟩
          case false =>
            go_wp2_with fail
            go_meet
            case rel => exact ⟨Lib.hid ⟨l, A, c, _, by rw [← HL.out], by have := HHL.out; rw [← HL.out]; omega, HO2.out, by omega, HK3.out⟩, HO3, HM3⟩
        case rest =>
          obtain ⟨hq, HP3, HM4⟩ := hcut
          obtain ⟨lq, AQ, cq, N4, rfl, hlq, hRQ, hN4, hK4⟩ := hq.out
          have HLQ := Lib.hid hlq
          have HRQ := Lib.hid hRQ
          have HK4 := Lib.hid hK4
          obtain ⟨LQ, hLQ⟩ : ∃ n, n = lq.length := ⟨_, rfl⟩
          have HLQ2 := Lib.hid hLQ
          rw [← hLQ] at hlq HRQ ⊢
          clear hq hRQ hK4 hLQ HO2 HO3 HM3 HK3 HBLK HLC
          have hPl : P ≤ 20 := by have := HHP.out; rw [← HP.out] at this; exact this
          go_upto_region 11 with fail
          go_cut [78] (fun b wx => (∃ Z : Bool, b = .bool Z ∧ Hid (Z = true ↔ 0 < P)) ∧ wx = wc)
          case first =>
            by_cases h0 : 0 < P
            · have h0i : (0 : Int) < (P : Int) := by omega
              go_wp2_with fail
              go_meet
              case rel => exact ⟨⟨_, rfl, Lib.hid (by simp [h0])⟩, rfl⟩
            · have h0i : ¬ (0 : Int) < (P : Int) := by omega
              have h0j : decide ((0 : Int) < (P : Int)) = false := decide_eq_false h0i
              go_wp2_with fail
              go_meet
              case rel => exact ⟨⟨_, rfl, Lib.hid (by simp [h0])⟩, rfl⟩
          case rest =>
            obtain ⟨⟨Z2, rfl, hZ2⟩, rfl⟩ := hcut
            go_upto_if 78 with fail
            go_cut [16] (fun rv wx => ∃ ri : Int, rv = .int .i64 ri ∧ Hid (∃ N, N ≤ M + 150 ∧ IsMk wx w.heap.size N) ∧ Hid (TOwn 24 wx wr.heap.size (.slice AQ LQ cq) lq) ∧ Hid (TOwn 40 wx w2.heap.size (.slice A3 P c3) p) ∧ Hid (Moves w.heap.size wr wx))
            case first =>
              cases Z2
              case true =>
                have h0 := hZ2.out.1 rfl
                obtain ⟨g3, rfl, hg31, hg32⟩ := HPB.out h0
                have hPi : (0 : Int) < (P : Int) := by omega
                clear hZ2
                go_upto_region 12 with fail
                obtain ⟨q0, e0⟩ : ∃ x, x = wc.drew := ⟨_, rfl⟩
                have K0 := Lib.hid (show IsMk q0 w.heap.size N4 by rw [e0]; exact HK4.out.drewN (n := 1))
                have OB0 := Lib.hid (show TOwn 24 q0 wr.heap.size (.slice AQ LQ cq) lq by rw [e0]; exact HRQ.out.drewN 1)
                have OP0 := Lib.hid (show TOwn 40 q0 w2.heap.size (.slice (some ⟨g3, 0, none⟩) P c3) p by rw [e0]; exact HP3.out.drewN 1)
                have MV0 := Lib.hid (show Moves w.heap.size wr q0 by rw [e0]; exact HM4.out.drewN (n := 1))
                have HE0 := Lib.hid e0
                have CS : ∀ q, TOwn 40 q w2.heap.size (.slice (some ⟨g3, 0, none⟩) P c3) p → ∀ j, j < P → q.cell? ⟨g3, j * 3 + 1, none⟩ = some (.int .i64 (p.getD j (0, 0, 0)).2.1) := fun q O j hj => (O.at3 HP.out (by rw [← HP.out]; exact hj)).1.2.1
                have HCS := Lib.hid CS
                have hHeld := CS q0 OP0.out
                clear e0 CS
                refine AnyT.begin_at tl12 (fun w' => ∀ j, j < P → w'.cell? ⟨g3, j * 3 + 1, none⟩ = some (.int .i64 (p.getD j (0, 0, 0)).2.1)) (by kernel_rfl) HE0.out hHeld ?_
                intro hHeld
                have HH := Lib.hid hHeld
                clear hHeld
                refine AnyT.takePD (i := 0) (d := some 79) (v := .slice (some ⟨g3, 0, none⟩) P c3) rfl rfl (by kernel_rfl) (by kernel_rfl) (by kernel_rfl) rfl (fun _ _ _ h => h) (Or.inl ⟨by rfl, fun wz _ => by go_simp⟩) ?_
                simp only [Act.put, List.setIfInBounds_toArray, List.set_cons_zero, List.set_cons_succ]
                refine AnyT.takePD (i := 1) (d := some 80) (v := .pointer (some ⟨w.heap.size, 0, none⟩)) rfl rfl (by kernel_rfl) (by kernel_rfl) (by kernel_rfl) rfl (fun _ _ _ h => h) (Or.inl ⟨by rfl, fun wz _ => by go_simp⟩) ?_
                simp only [Act.put, List.setIfInBounds_toArray, List.set_cons_zero, List.set_cons_succ]
                refine AnyT.takePD (i := 2) (d := some 81) (v := .slice (some ⟨g3, 0, none⟩) P c3) rfl rfl (by kernel_rfl) (by kernel_rfl) (by kernel_rfl) rfl (fun _ _ _ h => h) (Or.inl ⟨by rfl, fun wz _ => by go_simp⟩) ?_
                simp only [Act.put, List.setIfInBounds_toArray, List.set_cons_zero, List.set_cons_succ]
                refine AnyT.takePD (i := 3) (d := some 82) (v := .int .i64 (P : Int)) rfl rfl (by kernel_rfl) (by kernel_rfl) (by kernel_rfl) rfl (fun _ _ _ h => h) (Or.inl ⟨by rfl, fun wz _ => by go_simp⟩) ?_
                simp only [Act.put, List.setIfInBounds_toArray, List.set_cons_zero, List.set_cons_succ]
                refine AnyT.takePD (i := 8) (d := some 87) (v := .pointer (some ⟨w.heap.size, 0, none⟩)) rfl rfl (by kernel_rfl) (by kernel_rfl) (by kernel_rfl) rfl (fun _ _ _ h => h) (Or.inl ⟨by rfl, fun wz _ => by go_simp⟩) ?_
                simp only [Act.put, List.setIfInBounds_toArray, List.set_cons_zero, List.set_cons_succ]
                refine AnyT.branch (rs := [4]) (by kernel_rfl) (by simp) ?_
                refine all_cons ?_ all_nil
                refine AnyT.enter (i := 4) (d := some 83) (f := 16) (args := #[.pointer (some ⟨w.heap.size, 0, none⟩), .int .i64 (P : Int)]) (R := NextPost w.heap.size (N4 + 1) 0 ((P : Int) - 1) q0) rfl rfl rfl (by go_simp) (next_any w.heap.size N4 (P : Int) q0 K0.out (by omega) (by omega) (by omega)) ?_
                rintro e q1 ⟨y, rfl, y1, y2, k1, m1⟩
                have OP1 := Lib.hid (OP0.out.moves m1 hmw2.out)
                have OB1 := Lib.hid (OB0.out.moves m1 hmw.out)
                have MV1 := Lib.hid (MV0.out.trans m1)
                have K1 := Lib.hid k1
                obtain ⟨Y0, rfl⟩ := Int.eq_ofNat_of_zero_le y1
                have hY : Y0 < P := by omega
                refine ⟨_, rfl, fun _ => HCS.out q1 OP1.out, ?_⟩
                clear k1 m1 y1 y2 OP0 OB0 MV0 K0
                simp only [Act.put, List.setIfInBounds_toArray, List.set_cons_zero, List.set_cons_succ]
                refine AnyT.takePD (i := 5) (d := some 84) (v := .pointer (some ⟨g3, Y0 * 3, none⟩)) rfl rfl (by kernel_rfl) (by kernel_rfl) (by kernel_rfl) rfl (fun _ _ _ h => h) (Or.inl ⟨by rfl, fun wz _ => by go_simp⟩) ?_
                simp only [Act.put, List.setIfInBounds_toArray, List.set_cons_zero, List.set_cons_succ]
                refine AnyT.takePD (i := 6) (d := some 85) (v := .pointer (some ⟨g3, Y0 * 3 + 1, none⟩)) rfl rfl (by kernel_rfl) (by kernel_rfl) (by kernel_rfl) rfl (fun _ _ _ h => h) (Or.inl ⟨by rfl, fun wz _ => by go_simp⟩) ?_
                simp only [Act.put, List.setIfInBounds_toArray, List.set_cons_zero, List.set_cons_succ]
                obtain ⟨tt, htt⟩ : ∃ x, x = (p.getD Y0 (0, 0, 0)).2.1 := ⟨_, rfl⟩
                have hox := (HX.out _ (getD_memP (k := Y0) (by rw [← HP.out]; exact hY))).2.1
                rw [← htt] at hox
                have HTT := Lib.hid htt
                clear htt
                refine AnyT.takeD (i := 7) (d := some 86) (v := .int .i64 tt) rfl rfl (by kernel_rfl) (by kernel_rfl) (by kernel_rfl) (by kernel_rfl) (fun _ _ _ h => h) (Or.inl ⟨by rfl, fun wz hz => by have z0 := hz Y0 hY; rw [← HTT.out] at z0; clear hz; go_simp⟩) (HCS.out q1 OP1.out) ?_
                simp only [Act.put, List.setIfInBounds_toArray, List.set_cons_zero, List.set_cons_succ]
                refine AnyT.branch (rs := [9]) (by kernel_rfl) (by simp) ?_
                refine all_cons ?_ all_nil
                refine AnyT.enter (i := 9) (d := some 88) (f := 16) (args := #[.pointer (some ⟨w.heap.size, 0, none⟩), .int .i64 2]) (R := NextPost w.heap.size (N4 + 1 + 1) 0 (2 - 1) q1) rfl rfl rfl (by go_simp) (next_any w.heap.size (N4 + 1) 2 q1 K1.out (by omega) (by omega) (by omega)) ?_
                rintro e q2 ⟨z, rfl, z1, z2, k2, m2⟩
                have OP2 := Lib.hid (OP1.out.moves m2 hmw2.out)
                have OB2 := Lib.hid (OB1.out.moves m2 hmw.out)
                have MV2 := Lib.hid (MV1.out.trans m2)
                have K2 := Lib.hid k2
                refine ⟨_, rfl, fun _ => HCS.out q2 OP2.out, ?_⟩
                clear k2 m2 OP1 OB1 MV1 K1
                simp only [Act.put, List.setIfInBounds_toArray, List.set_cons_zero, List.set_cons_succ]
                have hwr : IntKind.i64.wrap (tt - z) = tt - z := IntWalk.i64_in _ (by omega)
                refine AnyT.branch (rs := [10]) (by kernel_rfl) (by simp) ?_
                refine all_cons ?_ all_nil
                refine AnyT.yield (i := 10) (d := some 89) (w' := q2) (v := .int .i64 (tt - z)) rfl rfl rfl (by go_simp) (fun _ => HCS.out q2 OP2.out) ?_
                simp only [Act.put, List.setIfInBounds_toArray, List.set_cons_zero, List.set_cons_succ]
                refine AnyT.branch (rs := [11]) (by kernel_rfl) (by simp) ?_
                refine all_cons ?_ all_nil
                refine AnyT.yield (i := 11) (d := some 16) (w' := q2) (v := .int .i64 (tt - z)) rfl rfl rfl (by go_simp) (fun _ => HCS.out q2 OP2.out) ?_
                simp only [Act.put, List.setIfInBounds_toArray, List.set_cons_zero, List.set_cons_succ]
                refine AnyT.done_ (by kernel_rfl) ?_ _
                go_wp2_with fail
                go_meet
                case rel => exact ⟨_, rfl, Lib.hid ⟨N4 + 1 + 1, by omega, K2.out⟩, OB2, OP2, MV2⟩
              case false =>
                go_wp2_with fail
                go_meet
                case rel => exact ⟨_, rfl, Lib.hid ⟨N4, by omega, HK4.out⟩, HRQ, HP3, HM4⟩
            case rest =>
              obtain ⟨ri, rfl, hN5, HRQ5, HP5, HM5⟩ := hcut
              obtain ⟨N5, hN5b, hK5⟩ := hN5.out
              have HK5 := Lib.hid hK5
              clear hN5 hK5 HRQ HP3 HM4 HK4
              go_wp2_with fail
              refine (pick_any w.heap.size N5 (fun _ => True) _ 7 7 _ (HK5.out.alloc _) (by omega) (by omega) (by omega) (by have := HK5.out.lt; omega) (by simp) (by exact new_pick _ _ (fun _ => True) [0, 1, 2, 3, 31, 32, -1] (fun _ _ => trivial) _ rfl)).mono ?_
              rintro e w8 ⟨sv, rfl, _, k8, m8⟩
              have HK8 := Lib.hid k8
              have HM8 := Lib.hid ((HM5.out.alloc _).trans m8)
              have HB8 := Lib.hid ((HRQ5.out.alloc _).moves m8 hmw.out)
              have HP8 := Lib.hid ((HP5.out.alloc _).moves m8 hmw2.out)
              clear k8 m8 HK5 HM5 HRQ5 HP5
              go_wp2_with fail
              refine (pick_any w.heap.size (N5 + 1) (fun _ => True) _ 4 4 _ (HK8.out.alloc _) (by omega) (by omega) (by omega) (by have := HK8.out.lt; omega) (by simp) (by exact new_pick _ _ (fun _ => True) [ri, -1, 0, r] (fun _ _ => trivial) _ rfl)).mono ?_
              rintro e w9 ⟨rv, rfl, _, k9, m9⟩
              have HK9 := Lib.hid k9
              have HM9 := Lib.hid ((HM8.out.alloc _).trans m9)
              have HB9 := Lib.hid ((HB8.out.alloc _).moves m9 hmw.out)
              have HP9 := Lib.hid ((HP8.out.alloc _).moves m9 hmw2.out)
              clear k9 m9 HK8 HM8 HB8 HP8
              have ca := exa_any lq p AQ A3 cq c3 sv rv w9 HB9.out.prow HP9.out.prow
              rw [← HLQ2.out, ← HP.out] at ca
              have HCA := Lib.hid ca
              clear ca
              go_wp2_with fail
              refine HCA.out.mono ?_
              rintro e w10 ⟨rfl, B10⟩
              have HK10 := Lib.hid (HK9.out.stays' B10)
              have HM10 := Lib.hid (HM9.out.trans (Moves.of_below B10))
              have HX10 := Lib.hid (XSt.mk HK10.out (HM10.out.below X.out.bel (Nat.le_refl _) X.out.bel.size))
              clear HCA B10 HK10 HM10
              go_wp2_with fail
              go_roundw
              case rel => exact ⟨I + 1, N5 + 1 + 1, by go_num, by have := HIL.out.1; omega, by have := HIL.out.2; omega, HX10⟩
              case measure => have := HIL.out.1; simp [intOf]; omega
    · obtain rfl : I = 4 := by omega
      have HR1 := Lib.hid (HA1.out.below X.out.bel)
      have HR2 := Lib.hid (HA2.out.below X.out.bel)
      have HBX := Lib.hid X.out.bel
      clear X hlt hI hM
      by_cases h70 : 70 < L0
      · have h70i : (70 : Int) < (L0 : Int) := by omega
        go_wp2_with fail
        go_ret
        exact ⟨rfl, HBX.out⟩
      · have h70j : decide ((70 : Int) < (L0 : Int)) = false := decide_eq_false (by omega)
        by_cases h71 : 70 < P0
        · have h71i : (70 : Int) < (P0 : Int) := by omega
          go_wp2_with fail
          go_ret
          exact ⟨rfl, HBX.out⟩
        · have h71j : decide ((70 : Int) < (P0 : Int)) = false := decide_eq_false (by omega)
          have ca := exa_any l0 p0 A1 A2 c1 c2 s r wr HR1.out HR2.out
          rw [← HL0.out, ← HP0.out] at ca
          have HCA := Lib.hid ca
          clear ca
          go_wp2_with fail
          refine HCA.out.mono ?_
          rintro e w10 ⟨rfl, B10⟩
          have HB10 := Lib.hid (HBX.out.trans (B10.mono HBX.out.size))
          clear HCA B10
          go_wp2_with fail
          refine (sane_any w10).mono ?_
          rintro e w11 ⟨rfl, B11⟩
          have HB11 := Lib.hid (HB10.out.trans (B11.mono HB10.out.size))
          clear B11
          go_wp2_with fail
          go_ret
          exact ⟨rfl, HB11.out⟩
end Go.Proofs.Ytbnlaopmmgoalaa
