/-
  The walk of WagonnumberPlaces.
-/
import Derived.Test.YtmhjdpmibfkhnaaOneDigitWalk
set_option linter.unusedSimpArgs false
set_option linter.unusedVariables false
namespace Go.Proofs.Ytmhjdpmibfkhnaa
open Go.RowKit

set_option maxHeartbeats 3200000 in
theorem places_walk (t : Option Addr) (len cap : Nat) (zs : List Int) (w : World) (h : IsRow .i64 w t len cap zs) :
    Calls Try.prog 5 #[.slice t len cap] w fun e w' => e = .returned (.bool true) ∧ Below w.heap.size w w' := by
  have R0 := Rnd.new (T := 43) h
  go_enter Try.func5, Try.ntmps5
  go_wp2_with fail
  refine (new_any t len cap _).mono ?_
  rintro e w0 ⟨rfl, rfl⟩
  go_wp2_with fail
  refine (mdigits_any w.heap.size 0 12 _ R0.mkr (by omega) (by omega)).mono ?_
  rintro e w1 ⟨s, rfl, hs, k1, k2⟩
  have R1 := R0.step k2 k1
  clear R0 k1 k2 h
  have hz := (dgs_t hs).1
  have HS := Lib.hid hs
  have ho12 := validR_12 hs
  -- what the law calls whole, and how many replacements a place has
  obtain ⟨wh, u, hwh, hcnt, hlen⟩ : ∃ (wh : Bool) (u : Nat), (validR s == 0) = wh ∧ ((wh = true ∧ u = 0) ∨ (wh = false ∧ u = 1)) ∧ (∀ i, i < 12 → cnt s i 10 = u) ∧ 12 * u ≤ (repsP s).1.length := by
    cases ho : okP s
    · refine ⟨false, 1, by rw [ho12, ho]; rfl, Or.inr ⟨rfl, rfl⟩, fun i hi => cnt_bad hs ho i hi, ?_⟩
      unfold repsP
      rw [if_pos hs, srtB_len]
      exact twelve_reps hs ho
    · exact ⟨true, 0, by rw [ho12, ho]; rfl, Or.inl ⟨rfl, rfl⟩, fun i hi => cnt_ok hs ho i hi 10 (Nat.le_refl _), Nat.zero_le _⟩
  obtain ⟨hcn, hlen⟩ := hlen
  have h0 : (repsP s).2 = 0 := by unfold repsP; rw [if_pos hs]
  clear ho12 hs
  go_wp2_with fail
  refine (pvalid_any _ _).mono ?_
  rintro e w' ⟨rfl, rfl⟩
  go_wp2_with fail
  refine (prepairs_any _ _).mono ?_
  rintro e w2 ⟨v, rfl, O, B⟩
  rw [h0]
  have B2 : Below w.heap.size w w2 := R1.bel.trans (B.mono R1.le)
  obtain ⟨la, lc, rfl⟩ := O.len
  generalize (repsP s).1.length = ln at *
  clear R1 B O h0
  have HCN := Lib.hid hcn
  clear hcn
  go_wp2_with fail
  go_loopw [7, 8] (fun c i wr => ∃ k : Nat, k ≤ 12 ∧ i = .int .i64 k ∧ c = .int .i64 (u * k : Nat) ∧ Below w.heap.size w wr) (fun _ i _ => 12 - (intOf i).toNat)
  case atStart => exact ⟨0, by omega, rfl, rfl, B2⟩
  case round =>
    obtain ⟨k, hk, rfl, rfl, B⟩ := hrel
    clear B2
    by_cases hlt : k < 12
    · have hd12 : decide ((k : Int) < 12) = true := decide_eq_true (by omega)
      have q0 : (0 : Int) ≤ (k : Int) := by omega
      have q1 : (k : Int) ≤ 12 := by omega
      have q2 : (0 : Int) ≤ (k : Int) + 1 := by omega
      have q3 : (k : Int) + 1 ≤ 12 := by omega
      have q4 : IntKind.i64.wrap ((k : Int) + 1) = (k : Int) + 1 := IntWalk.i64_in _ (by omega)
      have hu : u * k ≤ 12 := by rcases hcnt with ⟨_, rfl⟩ | ⟨_, rfl⟩ <;> omega
      obtain ⟨uk, huk⟩ : ∃ uk : Nat, uk = u * k := ⟨_, rfl⟩
      have HUK := Lib.hid huk
      rw [← huk] at hu ⊢
      clear huk
      go_wp2_with fail
      go_loopw [9, 10] (fun c d wr => ∃ j : Nat, j ≤ 10 ∧ d = .int .i64 j ∧ c = .int .i64 (cnt s k j) ∧ Below w.heap.size w wr) (fun _ d _ => 10 - (intOf d).toNat)
      case atStart => exact ⟨0, by omega, rfl, rfl, B⟩
      case round =>
        obtain ⟨j, hj, rfl, rfl, B2⟩ := hrel
        by_cases hlj : j < 10
        · have hd10 : decide ((j : Int) < 10) = true := decide_eq_true (by omega)
          have q6 : (strOfNums [48 + (j : Int)]).size = 1 := by rw [strOfNums_size]; rfl
          have q7 : IntKind.i64.wrap (48 + (j : Int)) = 48 + (j : Int) := IntWalk.i64_in _ (by omega)
          have q8 : IntKind.u8.wrap (48 + (j : Int)) = 48 + (j : Int) := IntWalk.u8_in _ (by omega)
          have hcl := cnt_le s k j
          have HE := Lib.hid (cnt_succ s k j)
          have hl := B2.size
          have hob := fun v => one_byte_drew wr v
          have B3 : Below w.heap.size w (wr.alloc (.cells #[.int .u8 (48 + (j : Int))] 5)).drew := (B2.alloc hl _).drew
          clear B B2
          by_cases c : 48 + j = (bt s k).toNat
          · have HQ : Hid (s.extract 0 k ++ strOfNums [48 + (j : Int)] ++ s.extract (k + 1) 12 = s) := Lib.hid ((rep_self hz hlt hlj).2 c)
            have HC : Hid (cnt s k (j + 1) = cnt s k j) := Lib.hid (by rw [HE.out, if_neg (fun g => g.1 c)]; rfl)
            clear c
            go_wp2_with fail
            go_region
            go_upto_region 15 with fail
            rw [HQ.out]
            generalize (wr.alloc (.cells #[.int .u8 (48 + (j : Int))] 5)).drew = wq at *
            clear hob
            go_wp2_with fail
            exact ⟨⟨j + 1, by omega, by go_num, by rw [HC.out], B3⟩, by simp [intOf]; omega⟩
          · have HQ : Hid (s.extract 0 k ++ strOfNums [48 + (j : Int)] ++ s.extract (k + 1) 12 = rep1 s k j) := Lib.hid rfl
            have hne : rep1 s k j ≠ s := fun e => c ((rep_self hz hlt hlj).1 e)
            have hne1 := toList_ne hne
            have HV := Lib.hid (validR_12 (dgs_rep HS.out k j hlt hlj))
            have HC := Lib.hid c
            clear c hne
            cases ho : okP (rep1 s k j)
            · have ev : (validR (rep1 s k j) == 0) = false := by rw [HV.out, ho]; rfl
              have HN : Hid (cnt s k (j + 1) = cnt s k j) := Lib.hid (by rw [HE.out, if_neg (fun g => by have := g.2; rw [ho] at this; cases this)]; rfl)
              clear ho
              go_wp2_with fail
              go_region
              go_upto_region 15 with fail
              rw [HQ.out]
              generalize (wr.alloc (.cells #[.int .u8 (48 + (j : Int))] 5)).drew = wq at *
              clear hob
              go_wp2_with fail
              refine (pvalid_any _ _).mono ?_
              rintro e w' ⟨rfl, rfl⟩
              go_wp2_with fail
              exact ⟨⟨j + 1, by omega, by go_num, by rw [HN.out], B3⟩, by simp [intOf]; omega⟩
            · have ev : (validR (rep1 s k j) == 0) = true := by rw [HV.out, ho]; rfl
              have HN : Hid (cnt s k (j + 1) = cnt s k j + 1) := Lib.hid (by rw [HE.out, if_pos ⟨HC.out, ho⟩])
              clear ho
              go_wp2_with fail
              go_region
              go_upto_region 15 with fail
              rw [HQ.out]
              generalize (wr.alloc (.cells #[.int .u8 (48 + (j : Int))] 5)).drew = wq at *
              clear hob
              go_wp2_with fail
              refine (pvalid_any _ _).mono ?_
              rintro e w' ⟨rfl, rfl⟩
              go_wp2_with fail
              exact ⟨⟨j + 1, by omega, by go_num, congrArg (Value.int .i64) (by rw [HN.out]; omega), B3⟩, by simp [intOf]; omega⟩
        · obtain rfl : j = 10 := by omega
          rw [HCN.out k hlt]
          rcases hcnt with ⟨rfl, rfl⟩ | ⟨rfl, rfl⟩
          · go_wp2_with fail
            exact ⟨⟨k + 1, by omega, by go_num, congrArg (Value.int .i64) (by have := HUK.out; omega), B2⟩, by simp [intOf]; omega⟩
          · go_wp2_with fail
            exact ⟨⟨k + 1, by omega, by go_num, congrArg (Value.int .i64) (by have := HUK.out; omega), B2⟩, by simp [intOf]; omega⟩
    · obtain rfl : k = 12 := by omega
      have l3 : ((u * 12 : Nat) : Int) ≤ (ln : Int) := by omega
      go_wp2_with fail
      refine (sane_any _).mono ?_
      rintro e w' ⟨rfl, B4⟩
      go_wp2_with fail
      go_ret
      exact ⟨rfl, B.trans (B4.mono B.size)⟩

end Go.Proofs.Ytmhjdpmibfkhnaa
