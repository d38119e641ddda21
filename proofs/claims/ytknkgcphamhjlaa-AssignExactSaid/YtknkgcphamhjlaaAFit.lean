/-
  Stage 16: the program's Fits and Refuses.
-/
import Derived.Test.YtknkgcphamhjlaaAFn
import Derived.Test.YtknkgcphamhjlaaABl
set_option linter.unusedSimpArgs false
set_option linter.unusedVariables false
namespace Go.Proofs.Ytknkgcphamhjlaa
open Go.RowKit Go.Lib

/-- The marks behind k loads of a list l, if it fits so far. -/
def fitK (a b l : List Int) : Nat → Option (List Bool)
  | 0 => some (List.replicate b.length false)
  | k + 1 => match fitK a b l k with
    | none => none
    | some tk => if ld a k = 0 then (if ld l k = -1 then some tk else none) else if ld l k < 0 ∨ (b.length : Int) ≤ ld l k ∨ ld b (ld l k).toNat < ld a k ∨ tk.getD (ld l k).toNat false = true then none else some (tk.set (ld l k).toNat true)
def fitR (a b l : List Int) : Bool := decide (valR a b = 0) && (decide (l.length = a.length) && (fitK a b l l.length).isSome)
theorem fitK_len {a b l : List Int} : ∀ {k : Nat} {tk : List Bool}, fitK a b l k = some tk → tk.length = b.length
  | 0, tk, h => by
    unfold fitK at h
    injection h with h
    subst h; simp
  | k + 1, tk, h => by
    unfold fitK at h
    cases hk : fitK a b l k with
    | none => rw [hk] at h; cases h
    | some t0 =>
      rw [hk] at h
      have ih := fitK_len hk
      simp only at h
      split at h
      · split at h
        · injection h with h; subst h; exact ih
        · cases h
      · split at h
        · cases h
        · injection h with h; subst h; rw [List.length_set]; exact ih
theorem fitK_none {a b l : List Int} {k : Nat} (h : fitK a b l k = none) : ∀ n, fitK a b l (k + n) = none
  | 0 => h
  | n + 1 => by
    rw [← Nat.add_assoc]
    conv => lhs; unfold fitK
    rw [fitK_none h n]
theorem fitR_none {a b l : List Int} {k : Nat} (h : fitK a b l k = none) (hk : k ≤ l.length) : fitR a b l = false := by
  obtain ⟨n, hn⟩ : ∃ n, l.length = k + n := ⟨l.length - k, by omega⟩
  unfold fitR
  have := fitK_none h n
  rw [← hn] at this
  rw [this]; simp
theorem fitK_zero {a b l : List Int} {k : Nat} {tk : List Bool} (h : fitK a b l k = some tk) (h0 : ld a k = 0) (h1 : ld l k = -1) : fitK a b l (k + 1) = some tk := by
  conv => lhs; unfold fitK
  rw [h]; simp only; rw [if_pos h0, if_pos h1]
theorem fitK_bad0 {a b l : List Int} {k : Nat} {tk : List Bool} (h : fitK a b l k = some tk) (h0 : ld a k = 0) (h1 : ld l k ≠ -1) : fitK a b l (k + 1) = none := by
  conv => lhs; unfold fitK
  rw [h]; simp only; rw [if_pos h0, if_neg h1]
theorem fitK_bad {a b l : List Int} {k : Nat} {tk : List Bool} (h : fitK a b l k = some tk) (h0 : ld a k ≠ 0) (h1 : ld l k < 0 ∨ (b.length : Int) ≤ ld l k ∨ ld b (ld l k).toNat < ld a k ∨ tk.getD (ld l k).toNat false = true) : fitK a b l (k + 1) = none := by
  conv => lhs; unfold fitK
  rw [h]; simp only; rw [if_neg h0, if_pos h1]
theorem fitK_good {a b l : List Int} {k y : Nat} {tk : List Bool} (h : fitK a b l k = some tk) (h0 : ld a k ≠ 0) (hy : ld l k = (y : Int)) (hyb : y < b.length) (h1 : ¬ ld b y < ld a k) (h2 : tk.getD y false = false) : fitK a b l (k + 1) = some (tk.set y true) := by
  conv => lhs; unfold fitK
  rw [h]; simp only; rw [if_neg h0, hy, Int.toNat_natCast, if_neg (by rintro (g | g | g | g); omega; omega; exact h1 g; rw [h2] at g; cases g)]
set_option maxRecDepth 100000 in
set_option maxHeartbeats 6400000 in
theorem fits_any (a b l : List Int) (A Bb C : Option Addr) (ca cb cl : Nat) (w : World) (ha : Row .i64 w w.heap.size A a) (hla : a.length ≤ maxLen) (hb : Row .i64 w w.heap.size Bb b) (hlb : b.length ≤ maxLen) (hl : Row .i64 w w.heap.size C l) (hll : l.length ≤ maxLen) :
    Calls Try.prog 11 #[.slice A a.length ca, .slice Bb b.length cb, .slice C l.length cl] w fun e w' => e = .returned (.bool (fitR a b l)) ∧ Below w.heap.size w w' := by
  have HV := Lib.hid (valid_any a b A Bb ca cb w ha hla hb hlb)
  have HA := Lib.hid ha
  have HB := Lib.hid hb
  have HC := Lib.hid hl
  obtain ⟨L, hL⟩ : ∃ n, n = a.length := ⟨_, rfl⟩
  obtain ⟨M, hM⟩ : ∃ n, n = b.length := ⟨_, rfl⟩
  obtain ⟨K, hK⟩ : ∃ n, n = l.length := ⟨_, rfl⟩
  have HL := Lib.hid hL
  have HM := Lib.hid hM
  have HK := Lib.hid hK
  unfold maxLen at hla hlb hll
  rw [← hL] at HV hla ⊢
  rw [← hM] at HV hlb ⊢
  rw [← hK] at hll ⊢
  by_cases hv : valR a b = 0
  · have V := vd_of hv
    have hM32 : M ≤ 32 := by have := V.lb; omega
    have HVR := Lib.hid hv
    rw [hv] at HV
    by_cases hKL : K = L
    · subst hKL
      have HR := Lib.hid (show fitR a b l = (fitK a b l K).isSome by unfold fitR; rw [hv, HK.out]; simp [← HK.out, ← HL.out])
      clear ha hb hl hL hM hK hv V hla
      have mk := make_bools w M (by omega)
      obtain ⟨CB, hCB⟩ : ∃ C, C = ((List.replicate M false).map Value.bool).toArray := ⟨_, rfl⟩
      have hbs := BSet.new w (List.replicate M false) w.heap.size rfl
      rw [← hCB] at mk hbs
      clear hCB
      have BS2 := Lib.hid hbs
      have B2 := Lib.hid ((Below.refl w.heap.size w).alloc (Nat.le_refl _) (.cells CB 4))
      clear hbs
      go_enter Try.func11, Try.ntmps11
      go_wp2_with fail
      refine HV.out.mono ?_
      rintro e w1 ⟨rfl, hw⟩
      subst hw
      clear HV
      go_upto_region 4 with fail
      clear mk
      obtain ⟨t, ht⟩ : ∃ t, t = w.heap.size := ⟨_, rfl⟩
      have HT := Lib.hid (show w.heap.size ≤ t by omega)
      rw [← ht] at BS2 ⊢
      generalize w.alloc (.cells CB 4) = w3 at *
      clear ht
      go_wp2_with fail
      go_loopw [26] (fun iv wr => ∃ k : Nat, k ≤ K ∧ iv = .int .i64 (k : Int) ∧ Hid (∃ tk, fitK a b l k = some tk ∧ BSet wr t tk) ∧ Hid (Below w.heap.size w wr)) (fun iv _ => K - (intOf iv).toNat)
      case atStart => exact ⟨0, by omega, rfl, Lib.hid ⟨_, rfl, by rw [← HM.out]; exact BS2.out⟩, B2⟩
      case round =>
        clear BS2 B2
        obtain ⟨k, hk, rfl, FT, B⟩ := hrel
        obtain ⟨tk, hft, hbs⟩ := FT.out
        have HF := Lib.hid hft
        have HBS := Lib.hid hbs
        have HTL := Lib.hid (fitK_len hft)
        clear hft hbs FT
        by_cases hlt : k < K
        · have hltz : (k : Int) < (K : Int) := by omega
          obtain ⟨la, rfl, -, c1⟩ := (HC.out.below B.out) k (by rw [← HK.out]; exact hlt)
          obtain ⟨aa, rfl, -, c2⟩ := (HA.out.below B.out) k (by rw [← HL.out]; exact hlt)
          obtain ⟨y, hy⟩ : ∃ z, z = ld l k := ⟨_, rfl⟩
          obtain ⟨x, hx⟩ : ∃ z, z = ld a k := ⟨_, rfl⟩
          change wr.cell? _ = some (Value.int .i64 (ld l k)) at c1
          change wr.cell? _ = some (Value.int .i64 (ld a k)) at c2
          rw [← hy] at c1
          rw [← hx] at c2
          have HY := Lib.hid hy
          have HX := Lib.hid hx
          clear hy hx
          have HBAD := Lib.hid (show fitK a b l (k + 1) = none → fitR a b l = false from fun h => fitR_none h (by rw [← HK.out]; omega))
          by_cases h0 : x = 0
          · have hx0 : (x == 0) = true := by simp [h0]
            by_cases h1 : y = -1
            · have hy1 : (y == -1) = true := by simp [h1]
              have HN := Lib.hid (show ∃ tk, fitK a b l (k + 1) = some tk ∧ BSet wr t tk from ⟨tk, fitK_zero HF.out (by rw [← HX.out]; exact h0) (by rw [← HY.out]; exact h1), HBS.out⟩)
              clear h0 h1
              go_wp2_with fail
              go_roundw
              case rel => exact ⟨k + 1, by omega, by go_num, HN, B⟩
              case measure => simp [intOf]; omega
            · have hy1 : (y == -1) = false := by simpa using h1
              have HZ := Lib.hid (HBAD.out (fitK_bad0 HF.out (by rw [← HX.out]; exact h0) (by rw [← HY.out]; exact h1)))
              clear h0 h1
              go_upto_region 8 with fail
              go_quiet (fail)
              go_wp2_with fail
              go_ret
              exact ⟨ret_bool HZ.out.symm, bdn B.out⟩
          · have hx0 : (x == 0) = false := by simpa using h0
            have HX0 := Lib.hid (show ld a k ≠ 0 by rw [← HX.out]; exact h0)
            clear h0
            by_cases h1 : y < 0
            · have hd1 : decide (y < 0) = true := decide_eq_true h1
              have HZ := Lib.hid (HBAD.out (fitK_bad HF.out HX0.out (Or.inl (by rw [← HY.out]; exact h1))))
              go_upto_region 8 with fail
              go_quiet (fail)
              go_wp2_with fail
              go_ret
              exact ⟨ret_bool HZ.out.symm, bdn B.out⟩
            · obtain ⟨yn, rfl⟩ := Int.eq_ofNat_of_zero_le (show 0 ≤ y by omega)
              have hd1 : decide ((yn : Int) < 0) = false := decide_eq_false h1
              by_cases h2 : M ≤ yn
              · have hd2 : decide ((yn : Int) ≥ (M : Int)) = true := decide_eq_true (by omega)
                have hd2' : decide ((M : Int) ≤ (yn : Int)) = true := decide_eq_true (by omega)
                have hd2n : (M : Int) ≤ (yn : Int) := by omega
                have HZ := Lib.hid (HBAD.out (fitK_bad HF.out HX0.out (Or.inr (Or.inl (by rw [← HY.out, ← HM.out]; omega)))))
                go_upto_region 8 with fail
                go_quiet (fail)
                go_wp2_with fail
                go_ret
                exact ⟨ret_bool HZ.out.symm, bdn B.out⟩
              · have hd2 : decide ((yn : Int) ≥ (M : Int)) = false := decide_eq_false (by omega)
                have hd2' : decide ((M : Int) ≤ (yn : Int)) = false := decide_eq_false (by omega)
                have hyM : (yn : Int) < (M : Int) := by omega
                have hyM2 : yn < M := by omega
                obtain ⟨ba, rfl, -, c3⟩ := (HB.out.below B.out) yn (by rw [← HM.out]; exact hyM2)
                obtain ⟨z, hz⟩ : ∃ z, z = ld b yn := ⟨_, rfl⟩
                change wr.cell? _ = some (Value.int .i64 (ld b yn)) at c3
                rw [← hz] at c3
                have HZB := Lib.hid hz
                clear hz
                by_cases h3 : z < x
                · have hd3 : decide (z < x) = true := decide_eq_true h3
                  have HZ := Lib.hid (HBAD.out (fitK_bad HF.out HX0.out (Or.inr (Or.inr (Or.inl (by rw [← HY.out, Int.toNat_natCast, ← HZB.out, ← HX.out]; exact h3))))))
                  go_upto_region 8 with fail
                  go_quiet (fail)
                  go_wp2_with fail
                  go_ret
                  exact ⟨ret_bool HZ.out.symm, bdn B.out⟩
                · have hd3 : decide (z < x) = false := decide_eq_false h3
                  have ct := HBS.out.cell yn (by rw [HTL.out, ← HM.out]; exact hyM2)
                  cases h4 : tk.getD yn false with
                  | true =>
                    rw [h4] at ct
                    have HZ := Lib.hid (HBAD.out (fitK_bad HF.out HX0.out (Or.inr (Or.inr (Or.inr (by rw [← HY.out, Int.toNat_natCast]; exact h4))))))
                    clear h4
                    go_upto_region 8 with fail
                    go_quiet (fail)
                    go_wp2_with fail
                    go_ret
                    exact ⟨ret_bool HZ.out.symm, bdn B.out⟩
                  | false =>
                    rw [h4] at ct
                    have HG := Lib.hid (fitK_good HF.out HX0.out HY.out.symm (by rw [← HM.out]; exact hyM2) (by rw [← HZB.out, ← HX.out]; exact h3) h4)
                    clear h4
                    go_upto_region 8 with fail
                    go_quiet (fail)
                    have ct2 : (wr.drewN nq).cell? ⟨t, yn, none⟩ = some (.bool false) := ct
                    have ft2 : (wr.drewN nq).frozen? ⟨t, yn, none⟩ = false := HBS.out.frozen yn
                    have HN := Lib.hid (show ∃ tk, fitK a b l (k + 1) = some tk ∧ BSet ((wr.drewN nq).setCell ⟨t, yn, none⟩ (.bool true)) t tk from ⟨_, HG.out, (HBS.out.drewN nq).set yn true⟩)
                    have HB2 := Lib.hid ((bdn (n := nq) B.out).setCell (p := ⟨t, yn, none⟩) HT.out (.bool true))
                    clear ct
                    go_wp2_with fail
                    go_roundw
                    case rel => exact ⟨k + 1, by omega, by go_num, HN, HB2⟩
                    case measure => simp [intOf]; omega
        · obtain rfl : k = K := by omega
          have hltz : ¬ (k : Int) < (k : Int) := by omega
          go_wp2_with fail
          go_ret
          exact ⟨ret_bool (by rw [HR.out, HF.out]; rfl), B.out⟩
    · have hKz : ((K : Int) != (L : Int)) = true := by simp; omega
      have HF := Lib.hid (show fitR a b l = false by unfold fitR; rw [hv]; simp; omega)
      clear ha hb hl hL hM hK hv V
      go_enter Try.func11, Try.ntmps11
      go_wp2_with fail
      refine HV.out.mono ?_
      rintro e w1 ⟨rfl, hw⟩
      subst hw
      clear HV
      go_wp2_with fail
      go_ret
      exact ⟨ret_bool HF.out.symm, Below.refl _ _⟩
  · obtain ⟨ev, hev⟩ : ∃ z, z = valR a b := ⟨_, rfl⟩
    rw [← hev] at HV
    have hne : (ev != 0) = true := by rw [hev]; simpa using hv
    have HF := Lib.hid (show fitR a b l = false by unfold fitR; rw [decide_eq_false hv]; rfl)
    clear ha hb hl hL hM hK hv hev
    go_enter Try.func11, Try.ntmps11
    go_wp2_with fail
    refine HV.out.mono ?_
    rintro e w1 ⟨rfl, hw⟩
    subst hw
    clear HV
    go_wp2_with fail
    go_ret
    exact ⟨ret_bool HF.out.symm, Below.refl _ _⟩
/-- Is number i of the list an index of a load? -/
def okx (a r : List Int) (i : Nat) : Bool := decide (0 ≤ ld r i ∧ ld r i < (a.length : Int) ∧ ld a (ld r i).toNat ≠ 0)
def okK (a r : List Int) (k : Nat) : Bool := (List.range k).all (okx a r)
def leastK (a r : List Int) : Nat → Int
  | 0 => 38400
  | k + 1 => min2 (leastK a r k) (ld a (ld r k).toNat)
def refR (a b r : List Int) : Bool := decide (valR a b = 0) && (risK r r.length && (okK a r r.length && decide ((cF b (leastK a r r.length) : Int) < (r.length : Int))))
theorem okK_succ (a r : List Int) (k : Nat) : okK a r (k + 1) = (okK a r k && okx a r k) := by unfold okK; rw [List.range_succ, List.all_append]; simp
theorem okK_part {a r : List Int} {k n : Nat} (h : okK a r k = false) (hk : k ≤ n) : okK a r n = false := by
  obtain ⟨m, rfl⟩ : ∃ m, n = k + m := ⟨n - k, by omega⟩
  unfold okK at *
  rw [List.range_add, List.all_append, h]; rfl
set_option maxRecDepth 100000 in
set_option maxHeartbeats 6400000 in
theorem refuses_any (a b r : List Int) (A Bb C : Option Addr) (ca cb cl : Nat) (w : World) (ha : Row .i64 w w.heap.size A a) (hla : a.length ≤ maxLen) (hb : Row .i64 w w.heap.size Bb b) (hlb : b.length ≤ maxLen) (hl : Row .i64 w w.heap.size C r) (hll : r.length ≤ maxLen) :
    Calls Try.prog 10 #[.slice A a.length ca, .slice Bb b.length cb, .slice C r.length cl] w fun e w' => e = .returned (.bool (refR a b r)) ∧ Below w.heap.size w w' := by
  have HV := Lib.hid (valid_any a b A Bb ca cb w ha hla hb hlb)
  have HI := Lib.hid (fun W (h : Below w.heap.size w W) => isRising_any r C cl W (hl.below h) hll)
  have HCF := Lib.hid (fun x W (h : Below w.heap.size w W) => countFrom_any b x Bb cb W (hb.below h) hlb)
  have HA := Lib.hid ha
  have HC := Lib.hid hl
  obtain ⟨L, hL⟩ : ∃ n, n = a.length := ⟨_, rfl⟩
  obtain ⟨M, hM⟩ : ∃ n, n = b.length := ⟨_, rfl⟩
  obtain ⟨K, hK⟩ : ∃ n, n = r.length := ⟨_, rfl⟩
  have HL := Lib.hid hL
  have HM := Lib.hid hM
  have HK := Lib.hid hK
  unfold maxLen at hla hlb hll
  rw [← hL] at HV hla ⊢
  rw [← hM] at HV HCF hlb ⊢
  rw [← hK] at HI hll ⊢
  by_cases hv : valR a b = 0
  · have HVR := Lib.hid hv
    rw [hv] at HV
    have HR := Lib.hid (show refR a b r = (risK r K && (okK a r K && decide ((cF b (leastK a r K) : Int) < (K : Int)))) by unfold refR; rw [hv, HK.out]; simp)
    cases hr : risK r K with
    | false =>
      rw [hr] at HI HR
      clear ha hb hl hL hM hK hv hr
      go_enter Try.func10, Try.ntmps10
      go_wp2_with fail
      refine HV.out.mono ?_
      rintro e w1 ⟨rfl, hw⟩
      subst hw
      clear HV
      go_wp2_with fail
      refine (HI.out w (Below.refl _ _)).mono ?_
      rintro e w1 ⟨rfl, q, rfl⟩
      go_wp2_with fail
      go_ret
      exact ⟨ret_bool HR.out.symm, bdn (n := q) (Below.refl _ _)⟩
    | true =>
      rw [hr] at HI HR
      clear ha hb hl hL hM hK hv hr
      go_enter Try.func10, Try.ntmps10
      go_wp2_with fail
      refine HV.out.mono ?_
      rintro e w1 ⟨rfl, hw⟩
      subst hw
      clear HV
      go_wp2_with fail
      refine (HI.out w (Below.refl _ _)).mono ?_
      rintro e w1 ⟨rfl, q, rfl⟩
      have HB0 := Lib.hid (bdn (n := q) (Below.refl w.heap.size w))
      clear HI
      generalize w.drewN q = w1 at *
      go_wp2_with fail
      go_loopw [7, 21] (fun mv iv wr => ∃ (k : Nat) (m : Int), k ≤ K ∧ iv = .int .i64 (k : Int) ∧ mv = .int .i64 m ∧ Hid (okK a r k = true) ∧ Hid (leastK a r k = m) ∧ Hid (wr = w1)) (fun _ iv _ => K - (intOf iv).toNat)
      case atStart => exact ⟨0, 38400, by omega, rfl, rfl, Lib.hid rfl, Lib.hid rfl, Lib.hid rfl⟩
      case round =>
        obtain ⟨k, m, hk, rfl, rfl, OK, LM, HW⟩ := hrel
        have hw := HW.out
        subst hw
        by_cases hlt : k < K
        · have hltz : (k : Int) < (K : Int) := by omega
          obtain ⟨la, rfl, -, c1⟩ := (HC.out.below HB0.out) k (by rw [← HK.out]; exact hlt)
          obtain ⟨y, hy⟩ : ∃ z, z = ld r k := ⟨_, rfl⟩
          change wr.cell? _ = some (Value.int .i64 (ld r k)) at c1
          rw [← hy] at c1
          have HY := Lib.hid hy
          have HS := Lib.hid (show okK a r (k + 1) = decide (0 ≤ y ∧ y < (L : Int) ∧ ld a y.toNat ≠ 0) by rw [okK_succ, OK.out, Bool.true_and, hy, HL.out]; rfl)
          have HBAD := Lib.hid (show okK a r (k + 1) = false → refR a b r = false from fun h => by rw [HR.out, okK_part h (by omega)]; rfl)
          clear hy
          by_cases h1 : y < 0
          · have HZ := Lib.hid (HBAD.out (by rw [HS.out]; exact decide_eq_false (by omega)))
            go_wp2_with fail
            go_ret
            exact ⟨ret_bool HZ.out.symm, HB0.out⟩
          · obtain ⟨yn, rfl⟩ := Int.eq_ofNat_of_zero_le (show 0 ≤ y by omega)
            by_cases h2 : L ≤ yn
            · have h2z : (L : Int) ≤ (yn : Int) := by omega
              have HZ := Lib.hid (HBAD.out (by rw [HS.out]; exact decide_eq_false (by omega)))
              go_wp2_with fail
              go_ret
              exact ⟨ret_bool HZ.out.symm, HB0.out⟩
            · have h2z : ¬ (L : Int) ≤ (yn : Int) := by omega
              have h2y : (yn : Int) < (L : Int) := by omega
              obtain ⟨aa, rfl, -, c2⟩ := (HA.out.below HB0.out) yn (by rw [← HL.out]; omega)
              obtain ⟨x, hx⟩ : ∃ z, z = ld a yn := ⟨_, rfl⟩
              change wr.cell? _ = some (Value.int .i64 (ld a yn)) at c2
              rw [← hx] at c2
              have HX := Lib.hid hx
              clear hx
              by_cases h3 : x = 0
              · have hx0 : (x == 0) = true := by simp [h3]
                have HZ := Lib.hid (HBAD.out (by rw [HS.out]; exact decide_eq_false (by rw [Int.toNat_natCast, ← HX.out]; omega)))
                clear h3
                go_wp2_with fail
                go_ret
                exact ⟨ret_bool HZ.out.symm, HB0.out⟩
              · have hx0 : (x == 0) = false := by simpa using h3
                have HN := Lib.hid (show okK a r (k + 1) = true by rw [HS.out]; exact decide_eq_true ⟨by omega, h2y, by rw [Int.toNat_natCast, ← HX.out]; exact h3⟩)
                obtain ⟨m2, hm2⟩ : ∃ z, z = min2 m x := ⟨_, rfl⟩
                have hmn : ∀ w ts t, (Builtin.min_ ts t #[.int .i64 m, .int .i64 x]).run Try.prog w = .ok (.int .i64 m2) w := fun w ts t => by rw [run_min2, hm2]
                have HM2 := Lib.hid (show leastK a r (k + 1) = m2 by
                  show min2 (leastK a r k) (ld a (ld r k).toNat) = m2
                  rw [LM.out, ← HY.out, Int.toNat_natCast, ← HX.out, hm2])
                clear h3 hm2
                go_wp2_with fail
                go_roundw
                case rel => exact ⟨k + 1, m2, by omega, by go_num, rfl, HN, HM2, by first | exact Lib.hid rfl | exact Lib.hid trivial⟩
                case measure => simp [intOf]; omega
        · obtain rfl : k = K := by omega
          have hltz : ¬ (k : Int) < (k : Int) := by omega
          have HCC := Lib.hid (HCF.out m wr HB0.out)
          have HF := Lib.hid (show refR a b r = decide ((cF b m : Int) < (k : Int)) by rw [HR.out, OK.out, LM.out]; simp)
          clear HR
          obtain ⟨cc, hcc⟩ : ∃ c, c = cF b m := ⟨_, rfl⟩
          rw [← hcc] at HCC HF
          clear hcc
          go_wp2_with fail
          refine HCC.out.mono ?_
          rintro e w2 ⟨rfl, hw⟩
          subst hw
          go_wp2_with fail
          go_ret
          exact ⟨ret_bool (by rw [HF.out]; simp), HB0.out⟩
  · obtain ⟨ev, hev⟩ : ∃ z, z = valR a b := ⟨_, rfl⟩
    rw [← hev] at HV
    have hne : (ev != 0) = true := by rw [hev]; simpa using hv
    have HF := Lib.hid (show refR a b r = false by unfold refR; rw [decide_eq_false hv]; rfl)
    clear ha hb hl hL hM hK hv hev
    go_enter Try.func10, Try.ntmps10
    go_wp2_with fail
    refine HV.out.mono ?_
    rintro e w1 ⟨rfl, hw⟩
    subst hw
    clear HV
    go_wp2_with fail
    go_ret
    exact ⟨ret_bool HF.out.symm, Below.refl _ _⟩
end Go.Proofs.Ytknkgcphamhjlaa
